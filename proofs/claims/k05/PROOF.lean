import PyProof.Rows.All
import Wide.All
import Wide.FinOn
import OpenK.KLine
import KE.KPairTest
import KE.KDictSum
import KE.KDictOf
import KE.KRevSl
import KE.KDictList
import KE.KIsAll
import KE.KPairComp
import KE.KItem
import PyProof.EqAt
import PyProof.EqKinds
import PyProof.TupleCall
import KE.KIntText
import KE.KRevIter
import PySem.Challenge.RW_strongboxes_k05_makings_written
set_option Elab.async false
set_option linter.all false
set_option maxRecDepth 100000
set_option maxHeartbeats 4000000
set_option autoImplicit true
set_option relaxedAutoImplicit true
section
open PySem PySem.W PyProof.Rows
abbrev AAA:=@wpAny_bind
abbrev AAB:=@wpAny_pure
abbrev AAC:=@Heap.get?_push_of_some
abbrev AAD:=@Heap.get?_push_size
abbrev AAE:=@Nat.le_refl
abbrev AAF:=@List.length_map
abbrev AAG:=@List.length_append
abbrev AAH:=@List.length_cons
abbrev AAI:=@List.mem_cons
abbrev AAJ:=@List.mem_append
abbrev AAK:=@List.mem_singleton
abbrev AAL:=@List.mem_map
abbrev AAM:=@Nat.lt_of_lt_of_le
abbrev AAN:=@decide_eq_false
abbrev AAO:=@decide_eq_true
abbrev AAP:=@List.mem_cons_self
abbrev AAQ:=@List.mem_cons_of_mem
abbrev AAR:=@List.getElem?_append_right
abbrev AAS:=@List.getElem?_append_left
abbrev AAT:=@List.getElem?_eq_some_iff
abbrev AAU:=@List.mem_of_getElem?
abbrev AAV:=@List.getElem?_map
abbrev AAW:=@List.map_cons
abbrev AAX:=@List.map_append
abbrev AAY:=@List.append_nil
abbrev AAZ:=@List.mem_append_right
abbrev AAa:=@List.mem_append_left
abbrev AAb:=@wpAny_call_entry
abbrev AAc:=@Nat.ne_of_lt
abbrev AAd:=@beq_eq_false_iff_ne
abbrev AAe:=@List.set_append_right
abbrev AAf:=@Bool.false_ne_true
abbrev AAg:=@Nat.lt_succ_of_lt
abbrev AAh:=@wpAny_mono
abbrev AAi:=@Nat.zero_le
abbrev AAj:=@List.replicate_succ
abbrev AAk:=@List.append_assoc
abbrev AAl:=@List.length_replicate
abbrev AAm:=@List.getElem?_set_ne
abbrev AAn:=@wpAny_holding
abbrev AAo:=@wpAny_setField_rec
abbrev AAp:=@wpAny_newObj_type
abbrev AAq:=@Nat.le_trans
abbrev AAr:=@List.getElem?_eq_getElem
abbrev AAs:=@wpAny_field
abbrev AAt:=@wpAny_seqItems
abbrev AAu:=@Nat.lt_irrefl
end
noncomputable def PySem.W.Fast.tw11128894773259410187:Nat:=0
noncomputable def PySem.W.Fast.tw3302901951134098103:Nat:=0
noncomputable def PySem.W.Fast.tw17354561672322787782:Nat:=0
noncomputable def PySem.W.Fast.tw311544189408011379:Nat:=0
noncomputable def PySem.W.Fast.tw1420538015245066983:Nat:=0
noncomputable def PySem.W.Fast.tw7974013682117062992:Nat:=0
noncomputable def PySem.W.Fast.tw530040662348998926:Nat:=0
noncomputable def PySem.W.Fast.tw1615188128340971024:Nat:=0
noncomputable def PySem.W.Fast.tw1859133220777953081:Nat:=0
noncomputable def PySem.W.Fast.tw17803410683044402603:Nat:=0
noncomputable def PySem.W.Fast.tw14312479024256217856:Nat:=0
noncomputable def PySem.W.Fast.tw5656032547361943957:Nat:=0
noncomputable def PySem.W.Fast.tw9899284281231139871:Nat:=0
noncomputable def PySem.W.Fast.tw11301613897866710584:Nat:=0
noncomputable def PySem.W.Fast.tw1420481763570107906:Nat:=0
noncomputable def PySem.W.Fast.tw17809880059146795371:Nat:=0
noncomputable def PySem.W.Fast.tw4257858492939661916:Nat:=0
noncomputable def PySem.W.Fast.tw1304373479422412532:Nat:=0
noncomputable def PySem.W.Fast.tw7286027938828976426:Nat:=0
noncomputable def PySem.W.Fast.tw16740089872618947190:Nat:=0
noncomputable def PySem.W.Fast.tw2923567480858969659:Nat:=0
noncomputable def PySem.W.Fast.tw10566625975759268624:Nat:=0
noncomputable def PySem.W.Fast.tw1644610779607857393:Nat:=0
noncomputable def PySem.W.Fast.tw14127823803458273075:Nat:=0
noncomputable def PySem.W.Fast.tw7561396040515058198:Nat:=0
noncomputable def PySem.W.Fast.tw1655237358451628918:Nat:=0
noncomputable def PySem.W.Fast.tw11128319143058658937:Nat:=0
noncomputable def PySem.W.Fast.tw10657830383316700134:Nat:=0
noncomputable def PySem.W.Fast.tw1583545413086883035:Nat:=0
noncomputable def PySem.W.Fast.tw2552743890063055230:Nat:=0
noncomputable def PySem.W.Fast.tw12747579968057413948:Nat:=0
noncomputable def PySem.W.Fast.tw3560540485097732146:Nat:=0
noncomputable def PySem.W.Fast.tw1992774037024059510:Nat:=0
noncomputable def PySem.W.Fast.tw13544951036329847027:Nat:=0
noncomputable def PySem.W.Fast.tw15074506942921870900:Nat:=0
noncomputable def PySem.W.Fast.tw11232936513198168720:Nat:=0
noncomputable def PySem.W.Fast.tw9554591950708879042:Nat:=0
noncomputable def PySem.W.Fast.tw17149172092345895554:Nat:=0
noncomputable def PySem.W.Fast.tw3329528376877968896:Nat:=0
noncomputable def PySem.W.Fast.tw14995932840096119139:Nat:=0
noncomputable def PySem.W.Fast.tw17812803470995085846:Nat:=0
noncomputable def PySem.W.Fast.tw8203642533456563151:Nat:=0
noncomputable def PySem.W.Fast.tw2642870784162400391:Nat:=0
noncomputable def PySem.W.Fast.tw13746813410510346434:Nat:=0
noncomputable def PySem.W.Fast.tw16894455793149392943:Nat:=0
noncomputable def PySem.W.Fast.tw13615534008174481059:Nat:=0
noncomputable def PySem.W.Fast.tw10754794826053517922:Nat:=0
noncomputable def PySem.W.Fast.tw7631108960313390524:Nat:=0
noncomputable def PySem.W.Fast.tw14615959122892269367:Nat:=0
noncomputable def PySem.W.Fast.tw15008562731410092520:Nat:=0
noncomputable def PySem.W.Fast.tw17674296793963768062:Nat:=0
noncomputable def PySem.W.Fast.tw14321130253496678349:Nat:=0
noncomputable def PySem.W.Fast.tw10062385971017010568:Nat:=0
noncomputable def PySem.W.Fast.tw13119737136633411045:Nat:=0
noncomputable def PySem.W.Fast.tw6608927924562083899:Nat:=0
noncomputable def PySem.W.Fast.tw11760195466991354687:Nat:=0
noncomputable def PySem.W.Fast.tw15919387905461301037:Nat:=0
noncomputable def PySem.W.Fast.tw8570563099286042295:Nat:=0
noncomputable def PySem.W.Fast.tw2164424030507788977:Nat:=0
noncomputable def PySem.W.Fast.tw5035594898725545336:Nat:=0
noncomputable def PySem.W.Fast.tw13051705203087963053:Nat:=0
noncomputable def PySem.W.Fast.tw11324697657180970449:Nat:=0
noncomputable def PySem.W.Fast.tw17041237028348023679:Nat:=0
noncomputable def PySem.W.Fast.tw10694733937167950896:Nat:=0
noncomputable def PySem.W.Fast.tw6428812529216763540:Nat:=0
noncomputable def PySem.W.Fast.tw15891656485500090997:Nat:=0
noncomputable def PySem.W.Fast.tw9484591472950767668:Nat:=0
noncomputable def PySem.W.Fast.tw14405519190381741284:Nat:=0
noncomputable def PySem.W.Fast.tw9404618574712423076:Nat:=0
noncomputable def PySem.W.Fast.tw13249741309190665009:Nat:=0
noncomputable def PySem.W.Fast.tw15945972721591704571:Nat:=0
noncomputable def PySem.W.Fast.tw16983701793078290274:Nat:=0
noncomputable def PySem.W.Fast.tw10954065443810719074:Nat:=0
noncomputable def PySem.W.Fast.tw8123311777936029726:Nat:=0
noncomputable def PySem.W.Fast.tw6236980224969177853:Nat:=0
noncomputable def PySem.W.Fast.tw5596001289324979766:Nat:=0
noncomputable def PySem.W.Fast.tw10909823143616896517:Nat:=0
noncomputable def PySem.W.Fast.tw18276802516340540340:Nat:=0
noncomputable def PySem.W.Fast.tw7968875472870086167:Nat:=0
noncomputable def PySem.W.Fast.tw4836170790069031719:Nat:=0
noncomputable def PySem.W.Fast.tw4501027519591636251:Nat:=0
noncomputable def PySem.W.Fast.tw7338992608133670694:Nat:=0
noncomputable def PySem.W.Fast.tw9591293302168198086:Nat:=0
noncomputable def PySem.W.Fast.tw10073687310680598091:Nat:=0
noncomputable def PySem.W.Fast.tw11039657491076961762:Nat:=0
noncomputable def PySem.W.Fast.tw4369287181560623780:Nat:=0
noncomputable def PySem.W.Fast.tw3365116737414590842:Nat:=0
noncomputable def PySem.W.Fast.tw6489916451988990061:Nat:=0
noncomputable def PySem.W.Fast.tw937641168320773293:Nat:=0
noncomputable def PySem.W.Fast.tw4477698227615324343:Nat:=0
noncomputable def PySem.W.Fast.tw1518437011067292520:Nat:=0
noncomputable def PySem.W.Fast.tw17220872003919679531:Nat:=0
noncomputable def PySem.W.Fast.tw13185286313270397400:Nat:=0
noncomputable def PySem.W.Fast.tw49656614663296412:Nat:=0
noncomputable def PySem.W.Fast.tw15069680816000033942:Nat:=0
noncomputable def PySem.W.Fast.tw14305433322659969493:Nat:=0
noncomputable def PySem.W.Fast.tw12756124859207110156:Nat:=0
noncomputable def PySem.W.Fast.tw495298627341754087:Nat:=0
noncomputable def PySem.W.Fast.tw11865590848212023629:Nat:=0
noncomputable def PySem.W.Fast.tw947543963067122329:Nat:=0
noncomputable def PySem.W.Fast.tw17168184396257187131:Nat:=0
noncomputable def PySem.W.Fast.tw6210267489034607530:Nat:=0
noncomputable def PySem.W.Fast.tw16222049129557256721:Nat:=0
noncomputable def PySem.W.Fast.tw5594019094597107133:Nat:=0
noncomputable def PySem.W.Fast.tw17487065563462957838:Nat:=0
noncomputable def PySem.W.Fast.tw2615389725349299660:Nat:=0
noncomputable def PySem.W.Fast.tw1280383533872872245:Nat:=0
noncomputable def PySem.W.Fast.tw13887657758988154398:Nat:=0
noncomputable def PySem.W.Fast.tw8270286993700460468:Nat:=0
noncomputable def PySem.W.Fast.tw1014212116830048598:Nat:=0
noncomputable def PySem.W.Fast.tw17656235941392376438:Nat:=0
noncomputable def PySem.W.Fast.tw15973653816803110568:Nat:=0
noncomputable def PySem.W.Fast.tw3675107354913077911:Nat:=0
noncomputable def PySem.W.Fast.tw17664338038831156493:Nat:=0
noncomputable def PySem.W.Fast.tw16452580867987183698:Nat:=0
noncomputable def PySem.W.Fast.tw14127216365995142305:Nat:=0
noncomputable def PySem.W.Fast.tw1773694075939773335:Nat:=0
noncomputable def PySem.W.Fast.tw502620171612169670:Nat:=0
noncomputable def PySem.W.Fast.tw16739740098853392969:Nat:=0
noncomputable def PySem.W.Fast.tw8745920707470846999:Nat:=0
namespace L2
open PySem PySem.Spec PyProof.Rows
noncomputable abbrev Key:=Sum Int Str
noncomputable def MI:Key->Value->Bool
 | .inl k,v=>Value.isInt k v
 | .inr x,v=>Value.isStrOf x v
noncomputable def eQ(w:World):Key->Int
 | .inl k=>hashInt k
 | .inr x=>hashStr w x
theorem CI:∀{k:Key} {v:Value},MI k v=true->(∃i t,k=Sum.inl i/\v=Value.int i t)∨(∃x t,k=Sum.inr x/\v=Value.str x t)
 | .inl i,v,h=>by
  obtain⟨t,e⟩:=Value.isInt_shape (k:=i) (v:=v) h;exact .inl ⟨i,t,rfl,e⟩
 | .inr x,v,h=>by
  obtain⟨t,e⟩:=Value.isStrOf_shape (x:=x) (v:=v) h;exact .inr ⟨x,t,rfl,e⟩
theorem S8(i:Int)(t:Tok):MI (.inl i) (.int i t)=true:=by simp[MI,Value.isInt]
theorem S7(x:Str)(t:Tok):MI (.inr x) (.str x t)=true:=by simp[MI,Value.isStrOf]
theorem ak(a b:Int):decide ((Sum.inl a:Key)=Sum.inl b)=(a==b):=by
 by_cases e:a=b
 ·subst e;simp
 ·have h:¬(Sum.inl a:Key)=Sum.inl b:=λq=>e (Sum.inl.inj q);rw[AAN h];exact(AAd.mpr e).symm
theorem ah(a b:Str):decide ((Sum.inr a:Key)=Sum.inr b)=decide (a=b):=by
 by_cases e:a=b
 ·subst e;simp
 ·have h:¬(Sum.inr a:Key)=Sum.inr b:=λq=>e (Sum.inr.inj q);rw[AAN h,AAN e]
theorem aj(a:Int)(b:Str):decide ((Sum.inl a:Key)=Sum.inr b)=false:=AAN (λq=>nomatch q)
theorem ai(a:Str)(b:Int):decide ((Sum.inr a:Key)=Sum.inl b)=false:=AAN (λq=>nomatch q)
noncomputable def Cg(prog:Program)(w:World):PySem.KeyKind prog w Key where
 is:=MI
 hash:=eQ w
 inj:=λv a b ha hb=>by
  rcases CI ha with ⟨i,t,rfl,rfl⟩|⟨x,t,rfl,rfl⟩
  ·rcases CI hb with ⟨j,u,rfl,e⟩|⟨y,u,rfl,e⟩
   ·injection e with e1 _;rw[e1]
   ·exact nomatch e
  ·rcases CI hb with ⟨j,u,rfl,e⟩|⟨y,u,rfl,e⟩
   ·exact nomatch e
   ·injection e with e1 _;rw[e1]
 byValue:=λk v h=>by
  rcases CI h with ⟨i,t,rfl,rfl⟩|⟨x,t,rfl,rfl⟩<;>rfl
 pyHash:=λhv h=>by
  rcases CI hv with ⟨i,t,rfl,rfl⟩|⟨x,t,rfl,rfl⟩
  ·exact wpAny_pyHash_int h
  ·exact wpAny_pyHash_str h
 eqBool:=λhu hv h=>by
  rcases CI hu with ⟨i,t,rfl,rfl⟩|⟨x,t,rfl,rfl⟩
  ·rcases CI hv with ⟨j,u,rfl,rfl⟩|⟨y,u,rfl,rfl⟩
   ·rw[ak] at h;exact wpAny_eqBool_int h
   ·rw[aj] at h;exact SeqAt.EqAt.int_str i t y u _ _ _ _ h
  ·rcases CI hv with ⟨j,u,rfl,rfl⟩|⟨y,u,rfl,rfl⟩
   ·rw[ai] at h;exact SeqAt.EqAt.str_int x t j u _ _ _ _ h
   ·rw[ah] at h;exact wpAny_eqBool_str h
 «strs»:=λk x t v h=>by
  rcases CI h with ⟨i,u,rfl,e⟩|⟨y,u,rfl,e⟩
  ·exact nomatch e
  ·injection e with e1 _
   subst e1;cases v<;>rfl
theorem OT(prog:Program)(w:World)(i:Int)(t:Tok):(Cg prog w).is (.inl i) (.int i t)=true:=S8 i t
theorem OS(prog:Program)(w:World)(x:Str)(t:Tok):(Cg prog w).is (.inr x) (.str x t)=true:=S7 x t
inductive V where
 |non|bl (b:Bool)|int (i:Int)|str (x:Str)|byt (b:Array UInt8)|flt (b:UInt64)|ref (a:Addr)|ty (n:String)
 deriving DecidableEq
def RelV:V->Value->Prop
 | .non,u=>u=Value.none
 | .bl b,u=>u=Value.bool b
 | .int i,u=>∃t,u=Value.int i t
 | .str x,u=>∃t,u=Value.str x t
 | .byt b,u=>∃t,u=Value.bytes b t
 | .flt b,u=>∃t,u=Value.float b t
 | .ref a,u=>u=Value.ref a
 | .ty n,u=>u=Value.type n
abbrev Vals:List V->List Value->Prop:=Paired RelV
theorem Vals.length(r:Vals xs us):xs.length=us.length:=Paired.length r
theorem Vals.get:∀{xs:List V} {us:List Value} {i:Nat} {x:V},Vals xs us->xs[i]?=some x->∃u,us[i]?=some u/\RelV x u
 |_,_,_,_,.nil,e=>by simp at e
 |_,_,0,_,.cons r _,e=>by simp at e;subst e;exact⟨_,rfl,r⟩
 |_,_,i+1,x,.cons _ t,e=>by
  obtain⟨u,h1,h2⟩:=Vals.get (i:=i) (x:=x) t (by simpa using e);exact⟨u,by simpa using h1,h2⟩
theorem Vals.set(r:RelV x u):∀{xs:List V} {us:List Value} (i:Nat),Vals xs us->Vals (xs.set i x) (us.set i u)
 |_,_,_,.nil=>.nil
 |_,_,0,.cons _ t=>.cons r t
 |_,_,i+1,.cons q t=>.cons q (Vals.set r i t)
theorem Vals.append:∀{xs ys:List V} {us ws:List Value},Vals xs us->Vals ys ws->Vals (xs++ys) (us++ws)
 |_,_,_,_,.nil,s=>s
 |_,_,_,_,.cons r t,s=>.cons r (Vals.append t s)
theorem Vals.take:∀{xs:List V} {us:List Value} (n:Nat),Vals xs us->Vals (xs.take n) (us.take n)
 |_,_,0,_=>.nil
 |_,_,_+1,.nil=>.nil
 |_,_,n+1,.cons r t=>.cons r (Vals.take n t)
theorem Vals.drop:∀{xs:List V} {us:List Value} (n:Nat),Vals xs us->Vals (xs.drop n) (us.drop n)
 |_,_,0,r=>r
 |_,_,_+1,.nil=>.nil
 |_,_,n+1,.cons _ t=>Vals.drop n t
noncomputable def RelO:Option V->Option Value->Prop
 |some v,some u=>RelV v u
 |none,none=>True
 |_,_=>False
noncomputable def KV{κ:Type}:List (κ×V)->List (κ×Value)->Prop:=Paired λ(p:κ×V) (q:κ×Value)=>p.1=q.1/\RelV p.2 q.2
noncomputable def kV:Key->V
 | .inl i=>.int i
 | .inr x=>.str x
inductive HO where
 |lst (xs:List V)
 |tup (xs:List V)
 |dK (kvs:List (Key×V))|dT (kvs:List (List Key×V))
 |set (S:Int->Bool) (n:Nat)
 |ins (C dx:Addr) (fs:List (Str×V))
 |own (x:Addr)
 |xd (fs:List (Str×V))
 |met (f x:Addr)
 |rng (lo hi:Int)
 |frz (o:Obj) (u:HO)
 |tbl (ps:Array Value)
 |ext (φ:Heap->Prop)
abbrev Hp:=Addr->Option HO
noncomputable def upd(H:Hp)(a:Addr)(o:HO):Hp:=λb=>if b=a then some o else H b
theorem Bt:upd H a o a=some o:=by unfold upd;rw[if_pos rfl]
theorem BG(h:b≠a):upd H a o b=H b:=by unfold upd;rw[if_neg h]
theorem cp{H:Hp}(h:H a=some o)(h':H b=some u)(d:o≠u):a≠b:=by
 intro e;subst e;rw[h] at h';exact d (Option.some.inj h')
theorem DM{H:Hp}(h:H a=some o)(h':H b=none):a≠b:=by
 intro e;subst e;rw[h] at h';cases h'
section
variable(P:Program)(w:World)
noncomputable def ObjOk(H:Hp)(h:Heap)(a:Addr):HO->Prop
 | .lst xs=>xs.length<=sizeLine/\∃(its:List Value) (n:Nat),Vals xs its/\h.get? a=some { cls:=.type "list",data:=.seq its.toArray n }
 | .tup xs=>xs.length<=sizeLine/\∃its:List Value,Vals xs its/\IsTup h a its.toArray
 | .dK kvs=>kvs.length<=sizeLine/\(a==sysModules)=false/\∃vs,KV kvs vs/\h.DictOf (Cg P w) a vs
 | .dT kvs=>kvs.length<=sizeLine/\(a==sysModules)=false/\∃xs:List (List Key×Addr×Value),
   Paired (λ(p:List Key×V) (q:List Key×Addr×Value)=>p.1=q.1/\H q.2.1=some (.tup (p.1.map kV))/\RelV p.2 q.2.2) kvs xs /\
   ∃o es ep,h.get? a=some o/\o.ExactDict/\o.data=.dict es ep/\es.toList=xs.map (entryOfKey (tupleKind (Cg P w)))/\(xs.map (·.1)).Nodup
 | .set S n=>h.SetOf (intKind P w) a S n
 | .ins C dx fs=>H dx=some (.own a)/\fs.length<=1000/\dx≠a/\h.get? a=some (PySem.W.instObj C dx) /\
   ∃mA,h.Ns1 dx mA/\(∀f,RelO (fs.lookup f) (mA f))/\PySem.Within mA (fs.map (·.1))
 | .own _=>∃o,h.get? a=some o
 | .xd fs=>∃mA,h.Ns1 a mA/\∀f,RelO (fs.lookup f) (mA f)
 | .rng lo hi=>∃t u v,h.get? a=some { cls:=.type "range",data:=.fields #[.int lo t,.int hi u,.int 1 v] }
 | .frz o u=>h.get? a=some o/\ObjOk H h a u
 | .tbl ps=>h.get? a=some { cls:=.none,data:=.fields ps }
 | .met f x=>h.get? a=some (PySem.W.methodObj (.ref f) (.ref x))
 | .ext φ=>φ h/\(∃o,h.get? a=some o)/\∀h1 h2:Heap,φ h1->(∀o,h1.get? a=some o->h2.get? a=some o)->φ h2
def HOk(H:Hp)(h:Heap):Prop:=∀a o,H a=some o->ObjOk P w H h a o
end
section
variable{P:Program}{w:World}{H H':Hp}{h h':Heap}{a:Addr}{o:HO}
theorem ObjOk.lt(x:ObjOk P w H h a o):a<h.objs.size:=by
 cases o with
 |lst xs=>obtain⟨_,_,_,_,e⟩:=x;exact Heap.lt_size e
 |tup xs=>obtain⟨_,_,_,p⟩:=x;exact p.lt
 |dK kvs=>obtain⟨_,_,_,_,o,_,_,e,_⟩:=x;exact Heap.lt_size e
 |dT kvs=>obtain⟨_,_,_,_,o,_,_,e,_⟩:=x;exact Heap.lt_size e
 |set S n=>obtain⟨o,_,_,_,e,_⟩:=x;exact Heap.lt_size e
 |ins C dx fs=>obtain⟨_,_,_,e,_⟩:=x;exact Heap.lt_size e
 |own y=>obtain⟨_,e⟩:=x;exact Heap.lt_size e
 |xd fs=>obtain⟨_,⟨_,_,_,e,_⟩,_⟩:=x;exact Heap.lt_size e
 |rng lo hi=>obtain⟨_,_,_,e⟩:=x;exact Heap.lt_size e
 |frz ob u=>obtain⟨e,_⟩:=x;exact Heap.lt_size e
 |tbl ps=>exact Heap.lt_size (show h.get? a=some _ from x)
 |met f y=>exact Heap.lt_size (show h.get? a=some _ from x)
 |ext φ=>obtain⟨_,⟨_,e⟩,_⟩:=x;exact Heap.lt_size e
theorem Paired.mapP:∀{l₁:List α} {l₂:List β},Paired F l₁ l₂->(∀a b,F a b->G a b)->Paired G l₁ l₂
 |_,_,.nil,_=>.nil
 |_,_,.cons r t,f=>.cons (f _ _ r) (Paired.mapP t f)
theorem ObjOk.stay(x:ObjOk P w H h a o)(k:∀b u,(b=a∨H b=some (.own a))->h.get? b=some u->h'.get? b=some u)
  (ho:∀b,H b=some (.own a)->H' b=some (.own a)) (ht:∀b xs,H b=some (.tup xs)->H' b=some (.tup xs)):ObjOk P w H' h' a o:=by
 induction o with
 |lst xs=>obtain⟨z,its,n,r,e⟩:=x;exact⟨z,its,n,r,k _ _ (.inl rfl) e⟩
 |tup xs=>obtain⟨z,its,r,ob,e,c⟩:=x;exact⟨z,its,r,ob,k _ _ (.inl rfl) e,c⟩
 |dK kvs=>obtain⟨z,y,vs,r,ob,es,ep,e,c⟩:=x;exact⟨z,y,vs,r,ob,es,ep,k _ _ (.inl rfl) e,c⟩
 |dT kvs=>
  obtain⟨z,y,xs,r,ob,es,ep,e,c⟩:=x;exact⟨z,y,xs,Paired.mapP r λp q z=>⟨z.1,ht _ _ z.2.1,z.2.2⟩,ob,es,ep,k _ _ (.inl rfl) e,c⟩
 |set S n=>obtain⟨ob,es,ep,t,e,c⟩:=x;exact⟨ob,es,ep,t,k _ _ (.inl rfl) e,c⟩
 |ins C dx fs=>
  obtain⟨d,z,ne,e,mA,⟨od,es,ep,e2,c⟩,r⟩:=x;exact⟨ho _ d,z,ne,k _ _ (.inl rfl) e,mA,⟨od,es,ep,k _ _ (.inr d) e2,c⟩,r⟩
 |own y=>obtain⟨ob,e⟩:=x;exact⟨ob,k _ _ (.inl rfl) e⟩
 |xd fs=>obtain⟨mA,⟨od,es,ep,e,c⟩,r⟩:=x;exact⟨mA,⟨od,es,ep,k _ _ (.inl rfl) e,c⟩,r⟩
 |rng lo hi=>obtain⟨t,u,v,e⟩:=x;exact⟨t,u,v,k _ _ (.inl rfl) e⟩
 |frz ob u ih=>obtain⟨e,q⟩:=x;exact⟨k _ _ (.inl rfl) e,ih q⟩
 |tbl ps=>
  have e:h.get? a=some { cls:=.none,data:=.fields ps }:=x;show h'.get? a=some { cls:=.none,data:=.fields ps };exact k a _ (.inl rfl) e
 |met f y=>
  have e:h.get? a=some (PySem.W.methodObj (.ref f) (.ref y)):=x;show h'.get? a=some (PySem.W.methodObj (.ref f) (.ref y));exact k a _ (.inl rfl) e
 |ext φ=>obtain⟨p,⟨o,e⟩,st⟩:=x;exact⟨st _ _ p λo q=>k _ _ (.inl rfl) q,⟨o,k _ _ (.inl rfl) e⟩,st⟩
theorem HOk.lt(x:HOk P w H h)(e:H a=some o):a<h.objs.size:=(x a o e).lt
theorem HOk.fresh(x:HOk P w H h)(e:h.objs.size<=a):H a=none:=by
 cases q:H a with
 |none=>rfl
 |some u=>exact absurd (AAM (x.lt q) e) (AAu _)
theorem HOk.kept(x:HOk P w H h)(k:∀b u,h.get? b=some u->h'.get? b=some u):HOk P w H h':=λa o e=>
 (x a o e).stay (λb u _ q=>k b u q) (λ_ q=>q) λ_ _ q=>q
theorem HOk.laid(x:HOk P w H h)(k:∀b u,h.get? b=some u->h'.get? b=some u)(hp:h.objs.size<=a)(new:ObjOk P w (upd H a o) h' a o):HOk P w (upd H a o) h':=λb u e=>by
 have hn:=x.fresh hp;by_cases hb:b=a
 ·subst hb;rw[Bt] at e;cases e;exact new
 ·rw[BG hb] at e;exact(x b u e).stay (λc v _ q=>k c v q) (λc q=>by rw[BG (DM q hn)];exact q) λc xs q=>by rw[BG (DM q hn)];exact q
end
def Rd(H:Hp)(a:Addr)(u:HO):Prop:=H a=some u∨∃o,H a=some (.frz o u)
theorem Rd.ok(r:Rd H a u)(x:HOk P w H h):ObjOk P w H h a u:=by
 rcases r with r|⟨o,r⟩
 ·exact x a u r
 ·obtain⟨_,q⟩:=x a _ r;exact q
noncomputable def Mut:Option HO->Prop
 |some (.lst _)=>True
 |some (.dK _)=>True
 |some (.dT _)=>True
 |some (.set _ _)=>True
 |some (.ins _ _ _)=>True
 |some (.ext _)=>True
 |_=>False
section
variable{P:Program}{w:World}{H:Hp}{h h':Heap}{x e:Addr}{o':HO}
theorem HOk.write(ok:HOk P w H h)(mu:Mut (H x))(he:e=x∨H e=some (.own x))(k:∀b u,b≠e->h.get? b=some u->h'.get? b=some u)(heo:∃u,h'.get? e=some u)
  (new:ObjOk P w (upd H x o') h' x o'):HOk P w (upd H x o') h':=λb u q=>by
 have nown:∀c y,H c=some (.own y)->c≠x:=λc y r z=>by subst z;rw[r] at mu;exact mu
 have ntup:∀c xs,H c=some (.tup xs)->c≠x:=λc xs r z=>by subst z;rw[r] at mu;exact mu
 by_cases hb:b=x
 ·subst hb;rw[Bt] at q;cases q;exact new
 ·rw[BG hb] at q;by_cases hbe:b=e
  ·have q':H b=some (.own x):=by
    rcases he with z|z
    ·exact absurd (hbe.trans z) hb
    ·rw[hbe];exact z
   rw[q] at q';cases q';obtain⟨v,hv⟩:=heo;exact⟨v,by rw[hbe];exact hv⟩
  ·refine(ok b u q).stay (λc v hc r=>k c v ?_ r) (λc r=>by rw[BG (nown c b r)];exact r) λc xs r=>by rw[BG (ntup c xs r)];exact r
   rcases hc with rfl|hc
   ·exact hbe
   ·rintro rfl;rcases he with z|z
    ·exact nown c b hc z
    ·rw[hc] at z;cases z;exact hb rfl
end
structure Un(fs ex:List Addr)(H H':Hp)(h h':Heap):Prop where
 keep:∀b o,h.get? b=some o->H b=none->b∉fs->b∉ex->h'.get? b=some o
 slot:∀b o,h.get? b=some o->H b=none->b∈fs->b∉ex->∃sl,h'.get? b=some { o with slots:=sl }
 free:∀b o,h.get? b=some o->H b=none->b∉ex->H' b=none
 there:∀b o,h.get? b=some o->b∉ex->∃o',h'.get? b=some o'
 tups:∀b xs,H b=some (.tup xs)->H' b=some (.tup xs)
 frzs:∀b o u,H b=some (.frz o u)->H' b=some (.frz o u)
 tbls:∀b ps,H b=some (.tbl ps)->∃more,H' b=some (.tbl (ps++more))
section
variable{fs ex:List Addr}{H H1:Hp}{h h1 h':Heap}{a x e:Addr}{o:HO}
theorem Un.any(u:Un fs ex H H1 h h1)(q:h.get? b=some ob)(n:H b=none)(hx:b∉ex):∃sl,h1.get? b=some { ob with slots:=sl }:=by
 by_cases hb:b∈fs
 ·exact u.slot b ob q n hb hx
 ·exact⟨ob.slots,u.keep b ob q n hb hx⟩
theorem Un.kept(k:∀b u,h.get? b=some u->h'.get? b=some u):Un fs ex H H h h':=
 ⟨λb ob q _ _ _=>k b ob q,λb ob q _ _ _=>⟨ob.slots,k b ob q⟩,λ_ _ _ n _=>n,λb ob q _=>⟨ob,k b ob q⟩,λ_ _ q=>q,λ_ _ _ q=>q,λ_ ps q=>⟨#[],by rw[q];simp⟩⟩
theorem Un.refl:Un fs ex H H h h:=Un.kept λ_ _ q=>q
theorem Un.laid(k:∀b u,h.get? b=some u->h'.get? b=some u)(hp:h.objs.size<=a)(hn:H a=none):Un fs ex H (upd H a o) h h' where
 keep:=λb u q _ _ _=>k b u q
 slot:=λb u q _ _ _=>⟨u.slots,k b u q⟩
 free:=λb u q n _=>by rw[BG (AAc (AAM (Heap.lt_size q) hp))];exact n
 there:=λb u q _=>⟨u,k b u q⟩
 tups:=λb xs q=>by rw[BG (DM q hn)];exact q
 frzs:=λb u xs q=>by rw[BG (DM q hn)];exact q
 tbls:=λb ps q=>⟨#[],by rw[BG (DM q hn),q];simp⟩
theorem Un.write(mu:Mut (H x))(he:e=x∨H e=some (.own x))(k:∀b u,b≠e->h.get? b=some u->h'.get? b=some u)(heo:∃u,h'.get? e=some u):Un fs ex H (upd H x o) h h':=by
 have hx:∀b,H b=none->b≠x:=λb n z=>by subst z;rw[n] at mu;exact mu
 have hb:∀b,H b=none->b≠e:=λb n z=>by
  subst z;rcases he with r|r
  ·exact hx b n r
  ·rw[n] at r;cases r
 have hm:∀b u,H b=some u->¬Mut (some u)->b≠x:=λb u q nm z=>by subst z;rw[q] at mu;exact nm mu
 refine⟨λb u q n _ _=>k b u (hb b n) q,λb u q n _ _=>⟨u.slots,k b u (hb b n) q⟩,λb u q n _=>by rw[BG (hx b n)];exact n,λb u q _=>?_,
  λb xs q=>by rw[BG (hm b _ q λz=>z)];exact q,λb u xs q=>by rw[BG (hm b _ q λz=>z)];exact q,λb ps q=>⟨#[],by rw[BG (hm b _ q λz=>z),q];simp⟩⟩
 by_cases hbe:b=e
 ·subst hbe;exact heo
 ·exact⟨u,k b u hbe q⟩
end
noncomputable def trk(h:Heap)(H:Hp):List Addr:=(List.range h.objs.size).filter λa=>(H a).isSome
noncomputable def NS(h:Heap)(H:Hp):Heap:=PySem.W.hideAll h (trk h H)
theorem TF(h:Heap)(H:Hp):(NS h H).objs.size=h.objs.size:=PySem.W.hideAll_size _ _
theorem V4(e:h.get? b=some o)(n:H b=none):(NS h H).get? b=some o:=
 PySem.W.hideAll_get _ e λhm=>by
  have q:(H b).isSome=true:=(List.mem_filter.mp hm).2;rw[n] at q;simp at q
theorem Xn(e:(NS h H).get? b=some o):h.get? b=some o/\H b=none:=by
 have e':h.get? b=some o:=PySem.W.of_hideAll (trk h H) e;refine⟨e',?_⟩;cases q:H b with
 |none=>rfl
 |some x=>
  have hm:b∈trk h H:=List.mem_filter.mpr ⟨List.mem_range.mpr (Heap.lt_size e'),by simp[q]⟩;have z:(NS h H).get? b=none:=PySem.W.hideAll_none (trk h H) hm;rw[z] at e;cases e
structure Mod(K:PySem.W.Frag)(mg:Str->Option Value)(base:Heap):Prop where
 kin:K.In base
 glob:base.Ns mainGlobals mg
 blt:∃mb,base.Ns builtinsNs mb/\∀x:Str,x ≠ "__name__" -> mb x=bootBuiltins x
 nolimit:base.NoLimit
set_option genInjectivity false in
structure Cx where
 prog:Program
 w:World
 K:PySem.W.Frag
 mg:Str->Option Value
 base:Heap
 A:Around
 N:List Str
 s₀:Shared
 H₀:Hp
 env:Env
 outer:List Env
 stack:List Env
 ex:List Addr
 fn:Str->Bool
 calm:Bool
 pn:List (Addr×Obj)
 xe:Value->Shared->Prop
noncomputable def frs(l:List Env):List Addr:=l.filterMap (·.frame)
noncomputable abbrev Cx.fs(X:Cx):List Addr:=frs X.outer
def Vis(sc:Scope)(x:Str):Prop:=sc.names.lookup x=some .local∨sc.names.lookup x=some .cell∨sc.names.lookup x=some .free
def Loc(sc:Scope)(x:Str):Prop:=sc.names.lookup x=some .local∨sc.names.lookup x=some .cell
def ef(env:Env)(h:Heap)(m:Str->Option Value)(x:Str)(u:Value):Prop:=
 (env.kindOf x=some .local/\m x=some u)∨((env.kindOf x=some .cell∨env.kindOf x=some .free)/\∃c,env.cells.lookup x=some c/\h.IsCell c (some u))
structure Cx.Ok(X:Cx):Prop where
 mod:Mod X.K X.mg X.base
 kind:X.env.scope.kind=.function
 glob:X.env.globals=mainGlobals
 blt:X.env.builtins=builtinsNs
 above:X.s₀.heap.objs.size<=X.env.locals
 inj:∀x y c,X.env.cells.lookup x=some c->X.env.cells.lookup y=some c->x=y
 has:∀x,(X.env.kindOf x=some .cell∨X.env.kindOf x=some .free)->∃c,X.env.cells.lookup x=some c
 cab:∀x c,X.fn x=true->X.env.cells.lookup x=some c->X.s₀.heap.objs.size<=c
 hd:X.calm=true->X.A.handled=none
 frames:X.A.frames=some X.stack
 stk:X.stack=X.outer∨(X.stack=X.env::X.outer/\X.env.frame=some X.env.locals)
 exf:∀b∈X.ex,b≠X.env.locals/\∀x c,X.env.cells.lookup x=some c->c≠b
 bs:∀b o,X.base.get? b=some o->X.s₀.heap.get? b=some o/\X.H₀ b=none
 bsz:X.base.objs.size<=X.s₀.heap.objs.size
 noex:∀b o,X.base.get? b=some o->b∉X.ex
 exfs:∀b∈X.ex,b∉X.fs
 funs:X.s₀.heap.FunFrames X.base X.outer
 frf:∀b∈X.fs,X.H₀ b=none
structure Inv(X:Cx)(pins:List (Addr×Obj))(σ:List (Option V))(H:Hp)(s:Shared):Prop where
 ok:X.Ok
 os:s.os=X.s₀.os
 bare:AllBare s.gens
 base:Un X.fs X.ex X.H₀ H X.s₀.heap s.heap
 loc:∃m,s.heap.Ns X.env.locals m/\∀(i:Nat) (x:Str) (v:V),X.N[i]?=some x->σ[i]?=some (some v)->Vis X.env.scope x->∃u,RelV v u/\ef X.env s.heap m x u
 cell:∀x c,X.env.cells.lookup x=some c->∃v,s.heap.IsCell c v
 free:H X.env.locals=none
 freeC:∀x c,X.env.cells.lookup x=some c->H c=none
 pin:∀p∈X.pn++pins,s.heap.get? p.1=some p.2/\H p.1=none/\p.1≠X.env.locals/\p.1∉X.fs/\∀v,p.2.data≠.cell v
 hok:HOk X.prog X.w H s.heap
 len:σ.length=X.N.length
section
variable{X:Cx}{pins:List (Addr×Obj)}{σ:List (Option V)}{H H':Hp}{s:Shared}{h':Heap}
theorem Cx.Ok.nofr(ok:X.Ok)(e:X.base.get? b=some o):b∉X.fs:=λhb=>by
 have:=(ok.funs.mem hb).1;rw[e] at this;cases this
theorem Inv.bs(I:Inv X pins σ H s):∀b o,X.base.get? b=some o->s.heap.get? b=some o/\H b=none:=λb o e=>
 ⟨I.base.keep b o (I.ok.bs b o e).1 (I.ok.bs b o e).2 (I.ok.nofr e) (I.ok.noex b o e),I.base.free b o (I.ok.bs b o e).1 (I.ok.bs b o e).2 (I.ok.noex b o e)⟩
theorem Inv.bk(I:Inv X pins σ H s):∀b o,X.base.get? b=some o->s.heap.get? b=some o:=λb o e=>(I.bs b o e).1
theorem Inv.mod(I:Inv X pins σ H s):Mod X.K X.mg X.base:=I.ok.mod
theorem Inv.kIn(I:Inv X pins σ H s):X.K.In s.heap:=I.ok.mod.kin.keeps I.bk
theorem Inv.lt(I:Inv X pins σ H s):X.env.locals<s.heap.objs.size:=let ⟨_,hn,_⟩:=I.loc;hn.lt
theorem Inv.sz(I:Inv X pins σ H s):X.s₀.heap.objs.size<=s.heap.objs.size:=AAq I.ok.above (Nat.le_of_lt I.lt)
theorem Inv.nofs(I:Inv X pins σ H s)(h:s.heap.objs.size<=a):a∉X.fs:=λhb=>by
 obtain⟨_,o,ho,_⟩:=I.ok.funs.mem hb;exact absurd (AAM (Heap.lt_size ho) (AAq I.sz h)) (AAu _)
theorem Inv.cne(I:Inv X pins σ H s):∀x c,X.env.cells.lookup x=some c->c≠X.env.locals:=λx c e z=>by
 obtain⟨v,o,ho,hd⟩:=I.cell x c e;obtain⟨m,⟨o',es,ep,ho',hd',_⟩,_⟩:=I.loc;rw[z,ho'] at ho;cases ho;rw[hd'] at hd;cases hd
theorem Inv.funs(I:Inv X pins σ H s):s.heap.FunFrames X.base X.outer:=by
 have all:∀(l:List Env),(∀b∈frs l,b∈X.fs)->X.s₀.heap.FunFrames X.base l->s.heap.FunFrames X.base l:=by
  intro l
  induction l with
  |nil=>intro _ _;trivial
  |cons env r ih=>
   intro hs hl;obtain⟨hk,⟨L,o,hf,hn,ho,hd⟩,hr⟩:=hl;have hL:L∈X.fs:=hs L (by unfold frs;rw[List.filterMap_cons,hf];exact AAP);obtain⟨sl,e⟩:=I.base.slot L o ho (I.ok.frf L hL) hL λz=>I.ok.exfs L z hL;exact⟨hk,⟨L,_,hf,hn,e,hd⟩,ih (λb hb=>hs b (by unfold frs;rw[List.filterMap_cons,hf];exact AAQ _ hb)) hr⟩
 exact all X.outer (λ_ hb=>hb) I.ok.funs
theorem Inv.stack(I:Inv X pins σ H s):s.heap.FunFrames X.base X.stack:=by
 rcases I.ok.stk with e|⟨e,hf⟩
 ·rw[e];exact I.funs
 ·rw[e];obtain⟨m,hn,_⟩:=I.loc;refine .cons (by rw[I.ok.kind];decide) hf hn ?_ I.funs;exact Heap.get?_none_of_le (AAq I.ok.bsz I.ok.above)
theorem Inv.stkSub(I:Inv X pins σ H s):∀b∈frs X.stack,b∈X.env.locals::X.fs:=λb hb=>by
 rcases I.ok.stk with e|⟨e,hf⟩
 ·rw[e] at hb;exact AAQ _ hb
 ·rw[e] at hb;unfold frs at hb;rw[List.filterMap_cons,hf] at hb;exact hb
theorem Inv.stkFree(I:Inv X pins σ H s):∀b∈frs X.stack,H b=none:=λb hb=>by
 rcases AAI.mp (I.stkSub b hb) with e|hb
 ·rw[e];exact I.free
 ·obtain⟨_,o,ho,_⟩:=I.ok.funs.mem hb;exact I.base.free b o ho (I.ok.frf b hb) λz=>I.ok.exfs b z hb
theorem Inv.step{g':Array GenState}{t':Nat}{ch:List Addr}(I:Inv X pins σ H s)
  (hch:∀b∈ch,(b∈X.ex∨X.s₀.heap.objs.size<=b)/\b≠X.env.locals/\(∀x c,X.env.cells.lookup x=some c->c≠b)/\∀p∈X.pn++pins,p.1≠b)
  (keep:∀b o,b≠X.env.locals->b∉X.fs->b∉ch->s.heap.get? b=some o->H b=none->h'.get? b=some o)
  (slot:∀b o,b≠X.env.locals->b∈X.fs->b∉ch->s.heap.get? b=some o->H b=none->∃sl,h'.get? b=some { o with slots:=sl }) (free:∀b o,b∉ch->s.heap.get? b=some o->H b=none->H' b=none)
  (there:∀b o,b∉ch->s.heap.get? b=some o->∃o',h'.get? b=some o')
  (tups:∀b xs,H b=some (.tup xs)->H' b=some (.tup xs)) (frzs:∀b o u,H b=some (.frz o u)->H' b=some (.frz o u)) (tbls:∀b ps,H b=some (.tbl ps)->∃more,H' b=some (.tbl (ps++more)))
  (ns:∀m,s.heap.Ns X.env.locals m->h'.Ns X.env.locals m) (hok:HOk X.prog X.w H' h') (hg:AllBare g') :
  Inv X pins σ H' { s with heap:=h',gens:=g',drawn:=d',toks:=t' }:=by
 have neL:∀b o,X.s₀.heap.get? b=some o->b≠X.env.locals:=λb o e=>AAc (AAM (Heap.lt_size e) I.ok.above);have neC:∀b o,X.s₀.heap.get? b=some o->b∉X.ex->b∉ch:=λb o e hx hb=>by
  rcases(hch b hb).1 with z|z
  ·exact hx z
  ·exact absurd (AAM (Heap.lt_size e) z) (AAu _)
 have cellK:∀x c,X.env.cells.lookup x=some c->∀v,s.heap.IsCell c v->h'.IsCell c v:=λx c e v ⟨o,ho,hd⟩=>by
  have nch:c∉ch:=λz=>(hch c z).2.2.1 x c e rfl;by_cases hc:c∈X.fs
  ·obtain⟨sl,q⟩:=slot c o (I.cne x c e) hc nch ho (I.freeC x c e);exact⟨_,q,hd⟩
  ·exact⟨o,keep c o (I.cne x c e) hc nch ho (I.freeC x c e),hd⟩
 refine⟨I.ok,I.os,hg,⟨λb o e n hb hx=>?_,λb o e n hb hx=>?_,λb o e n hx=>?_,λb o e hx=>?_,λb xs e=>tups b xs (I.base.tups b xs e),λb o xs e=>frzs b o xs (I.base.frzs b o xs e),λb ps e=>?_⟩,?_,λx c e=>?_,?_,λx c e=>?_,λp hp=>?_,hok,I.len⟩
 ·exact keep b o (neL b o e) hb (neC b o e hx) (I.base.keep b o e n hb hx) (I.base.free b o e n hx)
 ·obtain⟨sl,e1⟩:=I.base.slot b o e n hb hx;obtain⟨sl',e2⟩:=slot b _ (neL b o e) hb (neC b o e hx) e1 (I.base.free b o e n hx);exact⟨sl',e2⟩
 ·obtain⟨o',e1⟩:=I.base.there b o e hx;exact free b o' (neC b o e hx) e1 (I.base.free b o e n hx)
 ·obtain⟨o',e1⟩:=I.base.there b o e hx;exact there b o' (neC b o e hx) e1
 ·obtain⟨m1,e1⟩:=I.base.tbls b ps e;obtain⟨m2,e2⟩:=tbls b _ e1;exact⟨m1++m2,by rw[e2,Array.append_assoc]⟩
 ·obtain⟨m,hn,hl⟩:=I.loc;refine⟨m,ns m hn,λi x v e1 e2 e3=>?_⟩;obtain⟨u,r,l⟩:=hl i x v e1 e2 e3;refine⟨u,r,?_⟩;rcases l with l|⟨k,c,e,z⟩
  ·exact .inl l
  ·exact .inr ⟨k,c,e,cellK x c e _ z⟩
 ·obtain⟨v,z⟩:=I.cell x c e;exact⟨v,cellK x c e v z⟩
 ·obtain⟨m,⟨o,_,_,ho,_⟩,_⟩:=I.loc;exact free _ o (λz=>(hch _ z).2.1 rfl) ho I.free
 ·obtain⟨v,o,ho,hd⟩:=I.cell x c e;exact free c o (λz=>(hch c z).2.2.1 x c e rfl) ho (I.freeC x c e)
 ·obtain⟨e,n,ne,nf,d⟩:=I.pin p hp;have nch:p.1∉ch:=λz=>(hch p.1 z).2.2.2 p hp rfl;exact⟨keep p.1 p.2 ne nf nch e n,free p.1 p.2 nch e n,ne,nf,d⟩
theorem Inv.un{t':Nat}(I:Inv X pins σ H s)(u:Un X.fs [] H H' s.heap h')(hok:HOk X.prog X.w H' h'):Inv X pins σ H' { s with heap:=h',toks:=t' }:=by
 obtain⟨m,⟨o,es,ep,ho,r⟩,_⟩:=id I.loc;obtain⟨sl,hL⟩:=u.any ho I.free (by simp);exact I.step (g':=s.gens) (d':=s.drawn) (ch:=[]) (λ_ z=>nomatch z) (λb o _ hb _ e n=>u.keep b o e n hb (by simp)) (λb o _ hb _ e n=>u.slot b o e n hb (by simp)) (λb o _ e n=>u.free b o e n (by simp)) (λb o _ e=>u.there b o e (by simp)) u.tups u.frzs u.tbls (λm' hm=>by
  obtain⟨o',es',ep',ho',r'⟩:=hm;rw[ho] at ho';cases ho';exact⟨_,es',ep',hL,r'⟩) hok I.bare
theorem Inv.call{g':Array GenState}{t':Nat}{ch:List Addr}(I:Inv X pins σ H s)(u:Un (frs X.stack) ch H H' s.heap h')(hok:HOk X.prog X.w H' h')(hg:AllBare g')
  (hch:∀b∈ch,(b∈X.ex∨X.s₀.heap.objs.size<=b)/\b≠X.env.locals/\(∀x c,X.env.cells.lookup x=some c->c≠b)/\∀p∈X.pn++pins,p.1≠b) :
  Inv X pins σ H' { s with heap:=h',gens:=g',drawn:=d',toks:=t' }:=by
 obtain⟨m,⟨o,es,ep,ho,r⟩,_⟩:=id I.loc;obtain⟨sl,hL⟩:=u.any ho I.free λz=>(hch _ z).2.1 rfl;exact I.step (ch:=ch) hch (λb o hL hb hc e n=>u.keep b o e n (λz=>(AAI.mp (I.stkSub b z)).elim hL hb) hc) (λb o _ _ hc e n=>u.any e n hc) (λb o hc e n=>u.free b o e n hc) (λb o hc e=>u.there b o e hc) u.tups u.frzs u.tbls (λm' hm=>by
  obtain⟨o',es',ep',ho',r'⟩:=hm;rw[ho] at ho';cases ho';exact⟨_,es',ep',hL,r'⟩) hok hg
theorem Inv.turned{t':Nat}{it:Addr}(I:Inv X pins σ H s)(k:∀b o,b≠it->s.heap.get? b=some o->h'.get? b=some o)(hn:H it=none)(hL:it≠X.env.locals)
  (h1:it∈X.ex∨X.s₀.heap.objs.size<=it) (h2:∀x c,X.env.cells.lookup x=some c->c≠it) (h3:∀p∈X.pn++pins,p.1≠it):Inv X pins σ H { s with heap:=h',toks:=t' }:=by
 have nit:∀b u,H b=some u->b≠it:=λb u e z=>by rw[z,hn] at e;cases e
 refine I.step (g':=s.gens) (d':=s.drawn) (ch:=[it]) (λb hb=>?_) (λb o _ _ hc e _=>k b o (λz=>hc (by simp[z])) e) (λb o _ _ hc e _=>⟨o.slots,k b o (λz=>hc (by simp[z])) e⟩) (λ_ _ _ _ n=>n)
  (λb o hc e=>⟨o,k b o (λz=>hc (by simp[z])) e⟩) (λ_ _ e=>e) (λ_ _ _ e=>e) (λb ps e=>⟨#[],by rw[e];simp⟩) (λm hm=>?_) (λb u e=>?_) I.bare
 ·have e:b=it:=by simpa using hb
  subst e;exact⟨h1,hL,h2,h3⟩
 ·obtain⟨o,es,ep,ho,r⟩:=hm;exact⟨o,es,ep,k _ o (Ne.symm hL) ho,r⟩
 ·refine(I.hok b u e).stay (λc v hc q=>k c v ?_ q) (λ_ q=>q) λ_ _ q=>q;rcases hc with z|z
  ·rw[z];exact nit b u e
  ·exact nit c _ z
theorem Inv.tok(I:Inv X pins σ H s)(t:Nat):Inv X pins σ H { s with toks:=t }:=I.un (h':=s.heap) (t':=t) Un.refl I.hok
theorem Inv.kept(I:Inv X pins σ H s)(k:∀b u,s.heap.get? b=some u->h'.get? b=some u):Inv X pins σ H { s with heap:=h',toks:=t' }:=I.un (Un.kept k) (I.hok.kept k)
theorem Inv.laid(I:Inv X pins σ H s)(k:∀b u,s.heap.get? b=some u->h'.get? b=some u)(hp:s.heap.objs.size<=a)(new:ObjOk X.prog X.w (upd H a o) h' a o):
  Inv X pins σ (upd H a o) { s with heap:=h',toks:=t' }:=I.un (Un.laid k hp (I.hok.fresh hp)) (I.hok.laid k hp new)
theorem Inv.write(I:Inv X pins σ H s)(mu:Mut (H x))(he:e=x∨H e=some (.own x))(k:∀b u,b≠e->s.heap.get? b=some u->h'.get? b=some u)(heo:∃u,h'.get? e=some u)
  (new:ObjOk X.prog X.w (upd H x o) h' x o):Inv X pins σ (upd H x o) { s with heap:=h',toks:=t' }:=I.un (Un.write mu he k heo) (I.hok.write mu he k heo new)
theorem Inv.weak(I:Inv X pins σ H s)(hl:σ'.length=σ.length)(w:∀(i:Nat) v,σ'[i]?=some (some v)->σ[i]?=some (some v)):Inv X pins σ' H s:=
 ⟨I.ok,I.os,I.bare,I.base,let ⟨m,hn,hl'⟩:=I.loc;⟨m,hn,λi x v e1 e2 e3=>hl' i x v e1 (w i v e2) e3⟩,I.cell,I.free,I.freeC,I.pin,I.hok,hl.trans I.len⟩
theorem Inv.pins_of(I:Inv X pins σ H s)(h:∀p∈pins',s.heap.get? p.1=some p.2/\H p.1=none/\p.1≠X.env.locals/\p.1∉X.fs/\∀v,p.2.data≠.cell v):Inv X pins' σ H s:=
 ⟨I.ok,I.os,I.bare,I.base,I.loc,I.cell,I.free,I.freeC,λp hp=>(AAJ.mp hp).elim (λz=>I.pin p (AAa _ z)) (h p),I.hok,I.len⟩
theorem OR{N:List Str}(hN:N.Nodup){i j:Nat}{x:Str}(a:N[i]?=some x)(b:N[j]?=some x):i=j:=by
 obtain⟨h1,e1⟩:=AAT.mp a;obtain⟨h2,e2⟩:=AAT.mp b;exact(List.getElem_inj hN).mp (e1.trans e2.symm)
theorem JI{M:Model}{A:Around}{E:Value->Shared->Prop}{i:Nat}{x:Str}{u:Value}{Q:Unit->Shared->Prop}(I:Inv X pins σ H s)(hN:X.N.Nodup)(hi:X.N[i]?=some x)(hx:Loc X.env.scope x)(r:RelV v u)
  (h:∀s',Inv X pins (σ.set i (some v)) H s'->(∃a,Heap.SameBut a s.heap s'.heap/\(a=X.env.locals∨X.env.cells.lookup x=some a))->Q () s') (hf:X.fn x=true∨X.env.scope.names.lookup x=some .local:=by first|exact .inl rfl|exact .inr rfl|assumption):wpAny M A (storeName X.env x u) Q E s:=by
 obtain⟨m,hn,hl⟩:=id I.loc;have hcls:(X.env.scope.kind==.class||(X.env.scope.kind==.module&&X.env.locals != X.env.globals))=false:=by rw[I.ok.kind];rfl
 have hiσ:i<σ.length:=by rw[I.len];exact(AAT.mp hi).1
 have cne:=I.cne;have tracked:∀{a:Addr} {h':Heap},(∃o,s.heap.get? a=some o/\H a=none)->Heap.SameBut a s.heap h'->HOk X.prog X.w H h':=λ{a h'} ha hs b ob e=>by
  obtain⟨_,_,hfree⟩:=ha;refine(I.hok b ob e).stay (λc w' hc q=>(hs.2 c ?_).trans q) (λ_ q=>q) λ_ _ q=>q;rintro rfl;rcases hc with rfl|hc
  ·rw[hfree] at e;cases e
  ·rw[hfree] at hc;cases hc
 rcases hx with hk|hk
 ·refine wpAny_storeName_local hk hn (λh' hn' hs=>?_) hcls;obtain⟨oL,_,_,hoL,_⟩:=id hn;refine h _ ⟨I.ok,I.os,I.bare,⟨λb o e n hb hx=>?_,λb o e n hb hx=>?_,I.base.free,λb o e hx=>?_,I.base.tups,I.base.frzs,I.base.tbls⟩,⟨_,hn',λj y v' e1 e2 e3=>?_⟩,λy c e=>?_,I.free,I.freeC,λp hp=>?_,tracked ⟨oL,hoL,I.free⟩ hs,by simpa using I.len⟩ ⟨_,hs,.inl rfl⟩
  ·exact(hs.2 b (AAc (AAM (Heap.lt_size e) I.ok.above))).trans (I.base.keep b o e n hb hx)
  ·obtain⟨sl,e1⟩:=I.base.slot b o e n hb hx;exact⟨sl,(hs.2 b (AAc (AAM (Heap.lt_size e) I.ok.above))).trans e1⟩
  ·obtain⟨o',e1⟩:=I.base.there b o e hx;exact⟨o',(hs.2 b (AAc (AAM (Heap.lt_size e) I.ok.above))).trans e1⟩
  ·by_cases hj:j=i
   ·subst hj;rw[hi] at e1;cases e1;rw[List.getElem?_set_self hiσ] at e2;cases e2;exact⟨u,r,.inl ⟨hk,by simp⟩⟩
   ·rw[AAm (Ne.symm hj)] at e2;obtain⟨u',r',q⟩:=hl j y v' e1 e2 e3;refine⟨u',r',?_⟩;rcases q with ⟨k,e⟩|⟨k,c,e,z⟩
    ·refine .inl ⟨k,?_⟩;have:y≠x:=λe=>hj (OR hN e1 (e ▸ hi));simp[this,e]
    ·exact .inr ⟨k,c,e,z.sameBut hs (cne y c e)⟩
  ·obtain⟨w',z⟩:=I.cell y c e;exact⟨w',z.sameBut hs (cne y c e)⟩
  ·obtain⟨e,n,ne,nf,d⟩:=I.pin p hp;exact⟨(hs.2 p.1 ne).trans e,n,ne,nf,d⟩
 ·have hfn:X.fn x=true:=by
   rcases hf with z|z
   ·exact z
   ·rw[z] at hk;cases hk
  obtain⟨c,hc⟩:=I.ok.has x (.inl hk);obtain⟨w',z⟩:=I.cell x c hc;refine wpAny_storeName_cell I.ok.kind hk hc z (λh' hc' hs=>?_);obtain⟨oc,hoc,hocd⟩:=id z;refine h { s with heap:=h' } ⟨I.ok,I.os,I.bare,⟨λb o e n hb hx=>?_,λb o e n hb hx=>?_,I.base.free,λb o e hx=>?_,I.base.tups,I.base.frzs,I.base.tbls⟩,⟨m,hn.sameBut hs (Ne.symm (cne x c hc)),λj y v' e1 e2 e3=>?_⟩,λy c' e=>?_,I.free,I.freeC,λp hp=>?_,tracked ⟨oc,hoc,I.freeC x c hc⟩ hs,by simpa using I.len⟩ ⟨c,hs,.inr hc⟩
  ·exact(hs.2 b (AAc (AAM (Heap.lt_size e) (I.ok.cab x c hfn hc)))).trans (I.base.keep b o e n hb hx)
  ·obtain⟨sl,e1⟩:=I.base.slot b o e n hb hx;exact⟨sl,(hs.2 b (AAc (AAM (Heap.lt_size e) (I.ok.cab x c hfn hc)))).trans e1⟩
  ·obtain⟨o',e1⟩:=I.base.there b o e hx;exact⟨o',(hs.2 b (AAc (AAM (Heap.lt_size e) (I.ok.cab x c hfn hc)))).trans e1⟩
  ·by_cases hj:j=i
   ·subst hj;rw[hi] at e1;cases e1;rw[List.getElem?_set_self hiσ] at e2;cases e2;exact⟨u,r,.inr ⟨.inl hk,c,hc,hc'⟩⟩
   ·rw[AAm (Ne.symm hj)] at e2;obtain⟨u',r',q⟩:=hl j y v' e1 e2 e3;refine⟨u',r',?_⟩;rcases q with q|⟨k,c',e,z'⟩
    ·exact .inl q
    ·refine .inr ⟨k,c',e,z'.sameBut hs ?_⟩;rintro rfl;exact hj (OR hN e1 (I.ok.inj _ _ _ e hc ▸ hi))
  ·by_cases hcc:c'=c
   ·subst hcc;exact⟨_,hc'⟩
   ·obtain⟨w2,z2⟩:=I.cell y c' e;exact⟨w2,z2.sameBut hs hcc⟩
  ·obtain⟨e,n,ne,nf,d⟩:=I.pin p hp;refine⟨(hs.2 p.1 ?_).trans e,n,ne,nf,d⟩;intro q;rw[q,hoc] at e;have q':oc=p.2:=Option.some.inj e;exact d w' (by rw[←q'];exact hocd)
theorem OC(I:Inv X pins σ H s)(hN:X.N.Nodup)(hi:X.N[i]?=some x)(hx:Loc X.env.scope x)(r:RelV v u)
  (h:∀s',Inv X pins (σ.set i (some v)) H s'->Q () s') (hf:X.fn x=true∨X.env.scope.names.lookup x=some .local:=by first|exact .inl rfl|exact .inr rfl|assumption):wpAny M A (storeName X.env x u) Q E s:=
 JI I hN hi hx r (λs' I' _=>h s' I') hf
theorem Inv.call'(I:Inv X pins σ H s)(ho:s'.os=s.os)(u:Un (frs X.stack) ch H H' s.heap s'.heap)(hok:HOk X.prog X.w H' s'.heap)(hg:AllBare s'.gens)
  (hch:∀b∈ch,(b∈X.ex∨X.s₀.heap.objs.size<=b)/\b≠X.env.locals/\(∀x c,X.env.cells.lookup x=some c->c≠b)/\∀p∈X.pn++pins,p.1≠b):Inv X pins σ H' s':=by
 obtain⟨h',g',d',t',o'⟩:=s';have e:o'=s.os:=ho;subst e;exact I.call (g':=g') (t':=t') (d':=d') u hok hg hch
end
noncomputable abbrev XK:=Value->Option Addr->Hp->Prop
noncomputable abbrev St:=List (Option V)
noncomputable abbrev VK:=V->Hp->Prop
noncomputable abbrev TE:=St->Hp->VK->Prop
noncomputable abbrev TT:=St->Hp->(Bool->Hp->Prop)->Prop
noncomputable abbrev TA:=St->Hp->(List V->Hp->Prop)->Prop
structure Wa where
 nx:St->Hp->Prop
 rt:VK
 bk:St->Hp->Prop:=λ_ _=>False
 ct:St->Hp->Prop:=λ_ _=>False
noncomputable abbrev TS:=Wa->St->Hp->Prop
def EP(X:Cx)(pins:List (Addr×Obj))(σ:St)(Q:VK)(u:Value)(s':Shared):Prop:=∃v H',Inv X pins σ H' s'/\RelV v u/\Q v H'
def TP(X:Cx)(pins:List (Addr×Obj))(σ:St)(Q:Bool->Hp->Prop)(b:Bool)(s':Shared):Prop:=∃H',Inv X pins σ H' s'/\Q b H'
def AP(X:Cx)(pins:List (Addr×Obj))(σ:St)(Q:List V->Hp->Prop)(us:List Value)(s':Shared):Prop:=∃vs H',Inv X pins σ H' s'/\Vals vs us/\Q vs H'
def SP(X:Cx)(pins:List (Addr×Obj))(D:Wa)(f:Flow)(s':Shared):Prop:=
 match f with
 | .next=>∃σ' H',Inv X pins σ' H' s'/\D.nx σ' H'
 | .brk=>∃σ' H',Inv X pins σ' H' s'/\D.bk σ' H'
 | .cont=>∃σ' H',Inv X pins σ' H' s'/\D.ct σ' H'
 | .ret u=>∃v σ' H',Inv X pins σ' H' s'/\RelV v u/\D.rt v H'
def PE(X:Cx)(e:Expr)(t:TE):Prop:=
 ∀(pins:List (Addr×Obj)) (s:Shared) (σ:St) (H:Hp) (Q:VK),Inv X pins σ H s->t σ H Q->wpAny (model X.prog X.w) X.A (eval e X.env) (EP X pins σ Q) X.xe s
def PT(X:Cx)(e:Expr)(t:TT):Prop:=
 ∀(pins:List (Addr×Obj)) (s:Shared) (σ:St) (H:Hp) (Q:Bool->Hp->Prop),Inv X pins σ H s->t σ H Q->wpAny (model X.prog X.w) X.A (isTrue e X.env (eval e X.env)) (TP X pins σ Q) X.xe s
def PW(X:Cx)(e:Expr)(t:TT):Prop:=
 ∀(whole:Sem Value) (pins:List (Addr×Obj)) (s:Shared) (σ:St) (H:Hp) (Q:Bool->Hp->Prop),Inv X pins σ H s->t σ H Q->wpAny (model X.prog X.w) X.A (isTrue e X.env whole) (TP X pins σ Q) X.xe s
theorem PW.pt(h:PW X e t):PT X e t:=h _
def PA(X:Cx)(es:List Expr)(t:TA):Prop:=
 ∀(pos:Pos) (pins:List (Addr×Obj)) (s:Shared) (σ:St) (H:Hp) (Q:List V->Hp->Prop),Inv X pins σ H s->t σ H Q->wpAny (model X.prog X.w) X.A (spliced (backTo pos (starEach es X.env))) (AP X pins σ Q) X.xe s
def PS(X:Cx)(st:Stmt)(t:TS):Prop:=
 ∀(pins:List (Addr×Obj)) (s:Shared) (σ:St) (H:Hp) (D:Wa),Inv X pins σ H s->t D σ H->wpAny (model X.prog X.w) X.A (exec st X.env) (SP X pins D) X.xe s
def PSs(X:Cx)(st:List Stmt)(t:TS):Prop:=
 ∀(pins:List (Addr×Obj)) (s:Shared) (σ:St) (H:Hp) (D:Wa),Inv X pins σ H s->t D σ H->wpAny (model X.prog X.w) X.A (execs st X.env) (SP X pins D) X.xe s
theorem thn(h:wpAny M A t Q E s)(hQ:∀a s,Q a s->Q' a s):wpAny M A t Q' E s:=AAh h hQ λ_ _ x=>x
section
variable{X:Cx}
noncomputable def dn(i:Nat):TE:=λσ H Q=>∃v,σ[i]?=some (some v)/\Q v H
noncomputable def tC(v:V):TE:=λ_ H Q=>Q v H
theorem Zo(hN:X.N[i]?=some x)(hv:Vis X.env.scope x)(hd:(x==("__debug__" : Str))=false:=by decide)(hcd:(x==("__classdict__" : Str))=false:=by decide):PE X (.Name x pos) (dn i):=by
 intro pins s σ H Q I h;obtain⟨v,e,h⟩:=h;obtain⟨m,hn,hl⟩:=I.loc;obtain⟨u,r,l⟩:=hl i x v hN e hv;have fin:EP X pins σ Q u s:=⟨v,H,I,r,h⟩;rcases l with ⟨hk,hm⟩|⟨hk,c,hc,hcell⟩
 ·exact wpAny_Name (wpAny_loadName_local I.ok.kind hk hn hm fin) hd
 ·rcases hk with hk|hk
  ·exact wpAny_Name (wpAny_loadName_cell I.ok.kind hk hc hcell fin) hd
  ·exact wpAny_Name (wpAny_loadName_free I.ok.kind hk hc hcell fin hcd) hd
theorem Zu:PE X (.Constant (.int i) j pos) (tC (.int i)):=λ_ _ _ H _ I h=>wpAny_Constant_int ⟨.int i,H,I.tok _,⟨_,rfl⟩,h⟩
theorem cS:PE X (.Constant (.bool b) j pos) (tC (.bl b)):=λ_ _ _ H _ I h=>Constant_bool ⟨.bl b,H,I,rfl,h⟩
theorem Zt:PE X (.Constant .none j pos) (tC .non):=λ_ _ _ H _ I h=>Constant_none ⟨.non,H,I,rfl,h⟩
theorem Zq:PE X (.Constant (.str x) j pos) (tC (.str x)):=λ_ _ _ H _ I h=>Calls.Constant_str ⟨.str x,H,I.tok _,⟨_,rfl⟩,h⟩
def Gl(X:Cx)(x:Str):Prop:=X.env.kindOf x=some .globalImplicit
theorem NL(I:Inv X pins σ H s)(hg:Gl X x)(hm:X.mg x=some u)(h:Q u s)
  (hd:(x==("__debug__" : Str))=false:=by decide):wpAny (model X.prog X.w) X.A (eval (.Name x pos) X.env) Q E s:=
 Calls.Name_function_global I.ok.kind hg (Calls.loadGlobal_global (by rw[I.ok.glob];exact I.mod.glob.keeps I.bk) hm h) hd
theorem F4(I:Inv X pins σ H s)(hg:Gl X x)(hm:X.mg x=none)(hv:bootBuiltins x=some u)(h:Q u s)
  (hn:x ≠ "__name__" := by decide) (hd:(x==("__debug__" : Str))=false:=by decide):wpAny (model X.prog X.w) X.A (eval (.Name x pos) X.env) Q E s:=by
 obtain⟨mb,h1,h2⟩:=I.mod.blt;exact Calls.Name_function_global I.ok.kind hg (Calls.loadGlobal_builtin (by rw[I.ok.glob];exact I.mod.glob.keeps I.bk) hm (by rw[I.ok.blt];exact h1.keeps I.bk) ((h2 x hn).trans hv) h) hd
theorem J5(hg:Gl X x)(hm:X.mg x=some u)(r:RelV v u)(hd:(x==("__debug__" : Str))=false:=by decide):PE X (.Name x pos) (tC v):=
 λ_ _ _ H _ I h=>NL I hg hm ⟨v,H,I,r,h⟩ hd
theorem Xh(hg:Gl X x)(hm:X.mg x=none)(hv:bootBuiltins x=some u)(r:RelV v u)(hn:x ≠ "__name__" := by decide)(hd:(x==("__debug__" : Str))=false:=by decide):PE X (.Name x pos) (tC v):=
 λ_ _ _ H _ I h=>F4 I hg hm hv ⟨v,H,I,r,h⟩ hn hd
variable{a b:Expr}{ta tb:TE}{pos:Pos}
def PC(X:Cx)(op:CmpOp)(a b:Expr)(t:TE):Prop:=
 ∀(pins:List (Addr×Obj)) (s:Shared) (σ:St) (H:Hp) (Q:VK),Inv X pins σ H s->t σ H Q->
  wpAny (model X.prog X.w) X.A (eval a X.env) (λv s₁=>wpAny (model X.prog X.w) X.A (eval b X.env) (λu s₂=>wpAny (model X.prog X.w) X.A (compareOp op v u) (EP X pins σ Q) X.xe s₂) X.xe s₁) X.xe s
noncomputable def tB(t:TE):TT:=λσ H Q=>t σ H λx H1=>∃c,x=.bl c/\Q c H1
theorem VR(h:PC X op a b t)(h1:behindInMarks op b=false:=by first|exact nobehind _ (by decide) (by decide)|rfl):PE X (.Compare a [op] [b] pos) t:=λpins s σ H Q I hw=>wpAny_Compare1 (h pins s σ H Q I hw) h1
theorem Zd(h:PE X e t)(he:∀whole,isTrue e X.env whole=(do let v ←whole;standAt e.pos;holding [v] (truthy v)):=by intro _;rfl):PT X e (tB t):=by
 intro pins s σ H Q I hw;refine isTrue_plain (thn (h pins s σ H _ I hw) λv s1 ⟨x,H1,I1,r1,q1⟩=>?_) (he _);obtain⟨d,rfl,q⟩:=q1;cases r1;exact wpAny_truthy_bool ⟨H1,I1,q⟩
variable{tA tB':TT}{rest:List Expr}
noncomputable def eA(t u:TT):TT:=λσ H Q=>t σ H λc H1=>if c=true then u σ H1 Q else Q false H1
noncomputable def tOr(t u:TT):TT:=λσ H Q=>t σ H λc H1=>if c=true then Q true H1 else u σ H1 Q
noncomputable def dw(t:TT):TT:=λσ H Q=>t σ H λc H1=>Q (!c) H1
theorem XM(ha:PT X a tA):PW X (.BoolOp .And [a] pos) tA:=by
 intro wh pins s σ H Q I h;refine isTrue_and (thn (ha pins s σ H Q I h) λc s1 e=>?_);cases c with
 |true=>exact isTrue_and_nil e
 |false=>exact e
theorem Zb(ha:PT X a tA):PW X (.BoolOp .Or [a] pos) tA:=by
 intro wh pins s σ H Q I h;refine isTrue_or (thn (ha pins s σ H Q I h) λc s1 e=>?_);cases c with
 |false=>exact isTrue_or_nil e
 |true=>exact e
theorem Zc(ha:PT X a tA)(hb:PW X (.BoolOp .And (b::rest) pos) tB'):PW X (.BoolOp .And (a::b::rest) pos) (eA tA tB'):=by
 intro wh pins s σ H Q I h;refine isTrue_and (thn (ha pins s σ H _ I h) λc s1 ⟨H1,I1,q1⟩=>?_);cases c with
 |true=>exact hb wh pins s1 σ H1 Q I1 q1
 |false=>exact⟨H1,I1,q1⟩
theorem cJ(ha:PT X a tA)(hb:PW X (.BoolOp .Or (b::rest) pos) tB'):PW X (.BoolOp .Or (a::b::rest) pos) (tOr tA tB'):=by
 intro wh pins s σ H Q I h;refine isTrue_or (thn (ha pins s σ H _ I h) λc s1 ⟨H1,I1,q1⟩=>?_);cases c with
 |true=>exact⟨H1,I1,q1⟩
 |false=>exact hb wh pins s1 σ H1 Q I1 q1
theorem Ze(ha:PT X a tA):PT X (.UnaryOp .Not a pos) (dw tA):=by
 intro pins s σ H Q I h;exact isTrue_not (ha pins s σ H (λc H1=>Q (!c) H1) I h)
noncomputable def bo(ta tb:TE):TE:=λσ H Q=>ta σ H λx H1=>∃c,x=.bl c/\if c=true then tb σ H1 Q else Q (.bl false) H1
noncomputable def dv(ta tb:TE):TE:=λσ H Q=>ta σ H λx H1=>∃c,x=.bl c/\if c=true then Q (.bl true) H1 else tb σ H1 Q
noncomputable def bZ(ta:TE):TE:=λσ H Q=>ta σ H λx H1=>∃c,x=.bl c/\Q (.bl (!c)) H1
theorem Zr(h:PE X a t):PE X (.BoolOp op [a] pos) t:=λpins s σ H Q I hw=>BoolOp_one (h pins s σ H Q I hw)
theorem Zy(ha:PE X a ta)(hb:PE X (.BoolOp .And (b::rest) pos) tb):PE X (.BoolOp .And (a::b::rest) pos) (bo ta tb):=by
 intro pins s σ H Q I h;refine BoolOp_and (thn (ha pins s σ H _ I h) λv s1 ⟨x,H1,I1,r1,q1⟩=>?_);obtain⟨c,rfl,q1⟩:=q1;cases r1;refine wpAny_truthy_bool ?_;cases c with
 |true=>exact hb pins s1 σ H1 Q I1 q1
 |false=>exact⟨.bl false,H1,I1,rfl,q1⟩
theorem cO(ha:PE X a ta)(hb:PE X (.BoolOp .Or (b::rest) pos) tb):PE X (.BoolOp .Or (a::b::rest) pos) (dv ta tb):=by
 intro pins s σ H Q I h;refine BoolOp_or (thn (ha pins s σ H _ I h) λv s1 ⟨x,H1,I1,r1,q1⟩=>?_);obtain⟨c,rfl,q1⟩:=q1;cases r1;refine wpAny_truthy_bool ?_;cases c with
 |false=>exact hb pins s1 σ H1 Q I1 q1
 |true=>exact⟨.bl true,H1,I1,rfl,q1⟩
theorem Zs(ha:PE X a ta):PE X (.UnaryOp .Not a pos) (bZ ta):=by
 intro pins s σ H Q I h;refine UnaryOp_ (thn (ha pins s σ H _ I h) λv s1 ⟨x,H1,I1,r1,q1⟩=>?_);obtain⟨c,rfl,q1⟩:=q1;cases r1;exact not_of (wpAny_truthy_bool ⟨.bl (!c),H1,I1,rfl,q1⟩)
noncomputable def tIf(t:TT)(ta tb:TE):TE:=λσ H Q=>t σ H λc H1=>if c=true then ta σ H1 Q else tb σ H1 Q
theorem VO(hc:PT X c tA)(ha:PE X a ta)(hb:PE X b tb):PE X (.IfExp c a b pos) (tIf tA ta tb):=by
 intro pins s σ H Q I h;refine wpAny_IfExp (thn (hc pins s σ H _ I h) λd s1 ⟨H1,I1,q1⟩=>?_);cases d with
 |true=>exact ha pins s1 σ H1 Q I1 q1
 |false=>exact hb pins s1 σ H1 Q I1 q1
end
def SqL(K:PySem.W.Frag)(H:Hp)(a:Addr)(xs:List V):Prop:=
 Rd H a (.lst xs) ∨
  ∃(o:Obj) (its:Array Value) (n:Nat),K.lookup a=some o/\o.cls=.type "list" /\ o.dict=none/\o.data=.seq its n/\its.size<=sizeLine/\Vals xs its.toList
def SqT(K:PySem.W.Frag)(H:Hp)(a:Addr)(xs:List V):Prop:=
 Rd H a (.tup xs) ∨
  ∃(o:Obj) (its:Array Value) (n:Nat),K.lookup a=some o/\o.cls=.type "tuple" /\ o.data=.seq its n/\its.size<=sizeLine/\Vals xs its.toList
noncomputable def eZ:Value->Option V
 | .none=>some .non
 | .bool b=>some (.bl b)
 | .int i _=>some (.int i)
 | .str x _=>some (.str x)
 | .bytes b _=>some (.byt b)
 | .float b _=>some (.flt b)
 | .ref a=>some (.ref a)
 | .type n=>some (.ty n)
 |_=>none
theorem RelV.abs(r:RelV x u):eZ u=some x:=by
 cases x with
 |non=>cases r;rfl
 |bl _=>cases r;rfl
 |int _=>obtain⟨t,rfl⟩:=r;rfl
 |str _=>obtain⟨t,rfl⟩:=r;rfl
 |byt _=>obtain⟨t,rfl⟩:=r;rfl
 |flt _=>obtain⟨t,rfl⟩:=r;rfl
 |ref _=>cases r;rfl
 |ty _=>cases r;rfl
theorem RelV.inj(r:RelV x u)(q:RelV y u):x=y:=Option.some.inj (r.abs.symm.trans q.abs)
theorem Vals.inj:∀{xs ys:List V} {us:List Value},Vals xs us->Vals ys us->xs=ys
 |_,_,_,.nil,.nil=>rfl
 |_,_,_,.cons r t,.cons r' t'=>by rw[r.inj r',Vals.inj t t']
section
variable{X:Cx}{pins:List (Addr×Obj)}{σ:St}{H:Hp}{s:Shared}{a:Addr}{xs ys:List V}
theorem SqL.of{K:PySem.W.Frag}(h:H a=some (.lst xs)):SqL K H a xs:=.inl (.inl h)
theorem SqT.of{K:PySem.W.Frag}(h:H a=some (.tup xs)):SqT K H a xs:=.inl (.inl h)
theorem Inv.list(I:Inv X pins σ H s)(h:SqL X.K H a xs):∃its:List Value,Vals xs its/\PlainL s.heap a its.toArray/\xs.length<=sizeLine:=by
 rcases h with h|⟨o,its,n,hk,hc,hd,hs,hz,r⟩
 ·obtain⟨z,its,n,r,e⟩:=h.ok I.hok;exact⟨its,r,⟨_,n,e,rfl,rfl,rfl⟩,z⟩
 ·refine⟨its.toList,r,⟨o,n,I.kIn a o hk,hc,hd,by simpa using hs⟩,?_⟩;have e:=r.length;simp only[Array.length_toList] at e;omega
theorem Inv.tuple(I:Inv X pins σ H s)(h:SqT X.K H a xs):∃its:List Value,Vals xs its/\IsTup s.heap a its.toArray/\xs.length<=sizeLine:=by
 rcases h with h|⟨o,its,n,hk,hc,hs,hz,r⟩
 ·obtain⟨z,its,r,p⟩:=h.ok I.hok;exact⟨its,r,p,z⟩
 ·refine⟨its.toList,r,⟨o,I.kIn a o hk,hc,n,by simpa using hs⟩,?_⟩;have e:=r.length;simp only[Array.length_toList] at e;omega
theorem Inv.list_inj(I:Inv X pins σ H s)(h:SqL X.K H a xs)(h':SqL X.K H a ys):xs=ys:=by
 obtain⟨its,r,⟨o,n,e,_,_,d⟩,_⟩:=I.list h;obtain⟨its',r',⟨o',n',e',_,_,d'⟩,_⟩:=I.list h';rw[e] at e';cases e';rw[d] at d';injection d' with d1 _
 have:its=its':=by simpa using congrArg Array.toList d1
 subst this;exact r.inj r'
theorem Inv.tuple_inj(I:Inv X pins σ H s)(h:SqT X.K H a xs)(h':SqT X.K H a ys):xs=ys:=by
 obtain⟨its,r,⟨o,e,_,n,d⟩,_⟩:=I.tuple h;obtain⟨its',r',⟨o',e',_,n',d'⟩,_⟩:=I.tuple h';rw[e] at e';cases e';rw[d] at d';injection d' with d1 _
 have:its=its':=by simpa using congrArg Array.toList d1
 subst this;exact r.inj r'
end
noncomputable abbrev Cx.wish(X:Cx)(E:Value->Shared->Prop):Cx:={ X with xe:=E }
noncomputable abbrev Cx.nox(X:Cx):Cx:=X.wish λ_ _=>False
theorem Cx.Ok.wish{X:Cx}(ok:X.Ok)(E:Value->Shared->Prop):(X.wish E).Ok:=
 ⟨ok.mod,ok.kind,ok.glob,ok.blt,ok.above,ok.inj,ok.has,ok.cab,ok.hd,ok.frames,ok.stk,ok.exf,ok.bs,ok.bsz,ok.noex,ok.exfs,ok.funs,ok.frf⟩
theorem Cx.Ok.unwish{X:Cx}(ok:(X.wish E).Ok):X.Ok:=
 ⟨ok.mod,ok.kind,ok.glob,ok.blt,ok.above,ok.inj,ok.has,ok.cab,ok.hd,ok.frames,ok.stk,ok.exf,ok.bs,ok.bsz,ok.noex,ok.exfs,ok.funs,ok.frf⟩
section
variable{X:Cx}{pins:List (Addr×Obj)}{σ:St}{H:Hp}{s:Shared}{E:Value->Shared->Prop}
theorem Inv.wish(I:Inv X pins σ H s)(E:Value->Shared->Prop):Inv (X.wish E) pins σ H s:=⟨I.ok.wish E,I.os,I.bare,I.base,I.loc,I.cell,I.free,I.freeC,I.pin,I.hok,I.len⟩
theorem Inv.unwish(I:Inv (X.wish E) pins σ H s):Inv X pins σ H s:=⟨I.ok.unwish,I.os,I.bare,I.base,I.loc,I.cell,I.free,I.freeC,I.pin,I.hok,I.len⟩
theorem SP.unwish(h:SP (X.wish E) pins D f s'):SP X pins D f s':=by
 cases f with
 |next=>obtain⟨σ',H',I,q⟩:=h;exact⟨σ',H',I.unwish,q⟩
 |brk=>obtain⟨σ',H',I,q⟩:=h;exact⟨σ',H',I.unwish,q⟩
 |cont=>obtain⟨σ',H',I,q⟩:=h;exact⟨σ',H',I.unwish,q⟩
 |ret u=>obtain⟨v,σ',H',I,r,q⟩:=h;exact⟨v,σ',H',I.unwish,r,q⟩
theorem PSs.nox{st:List Stmt}(h:PSs X.nox st t):PSs X st t:=λpins s σ H D I hw=>
 AAh (h pins s σ H D (I.wish _) hw) (λ_ _ q=>q.unwish) λ_ _ z=>False.elim z
end
section
variable{X:Cx}{st:Stmt}{rest:List Stmt}{t u:TS}{e:Expr}{te:TE}{pos:Pos}
noncomputable def ba:TS:=λD σ H=>D.nx σ H
noncomputable def dt(t u:TS):TS:=λD σ H=>t { D with nx:=u D } σ H
theorem XT:PSs X [] ba:=λ_ _ σ H _ I h=>wpAny_execs_nil ⟨σ,H,I,h⟩
theorem VB(h1:PS X st t)(h2:PSs X rest u):PSs X (st::rest) (dt t u):=by
 intro pins s σ H D I h;refine wpAny_execs_cons (thn (h1 pins s σ H { D with nx:=u D } I h) λf s1 q=>?_);cases f with
 |next=>
  obtain⟨σ',H',I',q⟩:=q;exact h2 pins s1 σ' H' D I' q
 |ret v=>exact q
 |brk=>exact q
 |cont=>exact q
theorem XS(h1:PS X st t):PSs X [st] t:=by
 intro pins s σ H D I h;refine wpAny_execs_cons (thn (h1 pins s σ H D I h) λf s1 q=>?_);cases f with
 |next=>exact wpAny_execs_nil q
 |ret v=>exact q
 |brk=>exact q
 |cont=>exact q
theorem Inv.quiet(I:Inv X pins σ H s):interactive X.env=false:=by simp[interactive,I.ok.kind]
noncomputable def bh(te:TE):TS:=λD σ H=>te σ H λ_ H1=>D.nx σ H1
theorem XU(he:PE X e te)(hs:swapsWith e none pos.line X.env=pure false:=by rfl):PS X (.Expr e pos) (bh te):=by
 intro pins s σ H D I h;exact wpAny_Expr_any (thn (he pins s σ H _ I h) λv s1 ⟨x,H1,I1,r1,q1⟩=>⟨σ,H1,I1,q1⟩) I.quiet hs
noncomputable def du(te:TE):TS:=λD σ H=>te σ H D.rt
theorem Zg(he:PE X e te):PS X (.Return (some e) pos) (du te):=by
 intro pins s σ H D I h;exact wpAny_Return_some (thn (he pins s σ H _ I h) λv s1 ⟨x,H1,I1,r1,q1⟩=>⟨x,σ,H1,I1,r1,q1⟩)
noncomputable def dz(c:TT)(t u:TS):TS:=λD σ H=>c σ H λb H1=>if b=true then t D σ H1 else u D σ H1
theorem cL(hc:PT X c tc)(ha:PSs X a t)(hb:PSs X b u):PS X (.If c a b pos) (dz tc t u):=by
 intro pins s σ H D I h;refine wpAny_If (thn (hc pins s σ H _ I h) λd s1 ⟨H1,I1,q1⟩=>?_);cases d with
 |true=>exact ha pins s1 σ H1 D I1 q1
 |false=>exact hb pins s1 σ H1 D I1 q1
noncomputable def ZG:TS:=λ_ _ _=>False
theorem VC:PS X st ZG:=λ_ _ _ _ _ _ h=>h.elim
end
noncomputable abbrev TG:=V->St->Hp->(St->Hp->Prop)->Prop
noncomputable abbrev TGs:=List V->St->Hp->(St->Hp->Prop)->Prop
def PG(X:Cx)(target:Expr)(t:TG):Prop:=
 ∀(pins:List (Addr×Obj)) (s:Shared) (σ:St) (H:Hp) (v:V) (u:Value) (Q:St->Hp->Prop),Inv X pins σ H s->RelV v u->t v σ H Q->
  wpAny (model X.prog X.w) X.A (assign target X.env u) (λ_ s'=>∃σ' H',Inv X pins σ' H' s'/\Q σ' H') X.xe s
def PGs(X:Cx)(ts:List Expr)(t:TGs):Prop:=
 ∀(pins:List (Addr×Obj)) (s:Shared) (σ:St) (H:Hp) (vs:List V) (us:List Value) (Q:St->Hp->Prop),Inv X pins σ H s->Vals vs us->t vs σ H Q->
  wpAny (model X.prog X.w) X.A (assignInOrder ((assignEach ts X.env).map (·.2)) us) (λ_ s'=>∃σ' H',Inv X pins σ' H' s'/\Q σ' H') X.xe s
noncomputable abbrev dj:=V->V->V->Hp->(Hp->Prop)->Prop
def dk(X:Cx)(t:dj):Prop:=
 ∀(pins:List (Addr×Obj)) (s:Shared) (σ:St) (H:Hp) (o i v:V) (ov iv u:Value) (Q:Hp->Prop),Inv X pins σ H s->RelV o ov->RelV i iv->RelV v u->t o i v H Q->
  wpAny (model X.prog X.w) X.A (setItem ov iv u) (λ_ s'=>∃H',Inv X pins σ H' s'/\Q H') X.xe s
section
variable{X:Cx}{pos:Pos}
noncomputable def FE(i:Nat):TG:=λv σ H Q=>Q (σ.set i (some v)) H
theorem Az(hN:X.N.Nodup)(hi:X.N[i]?=some x)(hx:Loc X.env.scope x)(hf:X.fn x=true∨X.env.scope.names.lookup x=some .local:=by first|exact .inl rfl|exact .inr rfl|assumption):PG X (.Name x pos) (FE i):=by
 intro pins s σ H v u Q I r h;exact wpAny_assign_Name (OC I hN hi hx r (λs' I'=>⟨_,H,I',h⟩) hf)
noncomputable def dL:TGs:=λvs σ H Q=>vs=[]/\Q σ H
noncomputable def Yv(t:TG)(u:TGs):TGs:=λvs σ H Q=>∃v r,vs=v::r/\t v σ H λσ' H'=>u r σ' H' Q
theorem EV:PGs X [] dL:=by
 intro pins s σ H vs us Q I r h;obtain⟨e,h⟩:=h;subst e;cases r;exact assignInOrder_nil ⟨σ,H,I,h⟩
theorem BJ(h1:PG X e t)(h2:PGs X es u)
  (hs:(assignEach (e::es) X.env).map (·.2)=assign e X.env::(assignEach es X.env).map (·.2):=by rfl):PGs X (e::es) (Yv t u):=by
 intro pins s σ H vs us Q I r h;obtain⟨v,vr,e1,h⟩:=h;subst e1;cases r with
 |cons r rr=>
  rw[hs];refine assignInOrder_cons (thn (h1 pins s σ H _ _ _ I r h) λ_ s1 ⟨σ1,H1,I1,q1⟩=>?_);exact h2 pins s1 σ1 H1 _ _ Q I1 rr q1
noncomputable def av(K:PySem.W.Frag)(n:Nat)(t:TGs):TG:=λv σ H Q=>∃a xs,v=.ref a/\SqT K H a xs/\xs.length=n/\t xs σ H Q
theorem Pn(hc:X.calm=true)(h:PGs X es t)
  (hn:(assignEach es X.env).length=n:=by rfl) (hst:(assignEach es X.env).findIdx? (·.1)=none:=by rfl):PG X (.Tuple es k pos) (av X.K n t):=by
 intro pins s σ H v u Q I r hw;obtain⟨a,xs,e1,hq,hl,hw⟩:=hw;subst e1;cases r;obtain⟨its,rv,ht,hz⟩:=I.tuple hq;refine assign_Tuple_tuple (I.ok.hd hc) ht (by simp[hn,←hl,rv.length]) hst λh' hx=>?_;have I1:Inv X pins σ H { s with heap:=h' }:=I.kept (t':=s.toks) λb o e=>hx b o (AAc (Heap.lt_size e)) e;exact h pins _ σ H xs _ Q I1 (by simpa using rv) hw
noncomputable def eT(to ti:TE)(t:dj):TG:=λv σ H Q=>to σ H λo H1=>ti σ H1 λi H2=>t o i v H2 λH3=>Q σ H3
theorem Zn(ho:PE X o to)(hi:PE X i ti)(hs:dk X t)
  (ha:∀v,assign (.Subscript o i pos) X.env v=(do
   let ov ←holding [v] (eval o X.env)
   let iv ←holding [v,ov] (eval i X.env)
   standAt pos
   holding [v,ov,iv] (setItem ov iv v)
   release [v,ov,iv] []):=by intro _;rfl):PG X (.Subscript o i pos) (eT to ti t):=by
 intro pins s σ H v u Q I r h;rw[ha];refine AAA (AAn (thn (ho pins s σ H _ I h) λov s1 ⟨x,H1,I1,r1,q1⟩=>?_));refine AAA (AAn (thn (hi pins s1 σ H1 _ I1 q1) λiv s2 ⟨y,H2,I2,r2,q2⟩=>?_));refine AAA (wpAny_standAt (AAA (AAn (thn (hs pins s2 σ H2 x y v ov iv u _ I2 r1 r2 r q2) λ_ s3 ⟨H3,I3,q3⟩=>?_))));exact wpAny_release ⟨σ,H3,I3,q3⟩
noncomputable def UZ(te:TE)(g:TG):TS:=λD σ H=>te σ H λx H1=>g x σ H1 D.nx
theorem Zj(he:PE X e te)(hg:PG X tg g)(hs:swapsWithSole [tg] e pos.line X.env=pure false:=by rfl)(hw:swappedStores [tg] e X.env=pure none:=by rfl)
  (h1:(assignEach [tg] X.env).map (·.2)=[assign tg X.env]:=by rfl):PS X (.Assign [tg] e pos) (UZ te g):=by
 intro pins s σ H D I h;refine wpAny_Assign_stores (thn (he pins s σ H _ I h) λv s1 ⟨x,H1,I1,r1,q1⟩=>?_) hs hw;rw[h1];exact thn (hg pins s1 σ H1 x v _ I1 r1 q1) λ_ s2 q=>q
theorem Zf(hN:X.N.Nodup)(hi:X.N[i]?=some x)(hx:Loc X.env.scope x)(he:PE X e te)(hs:swapsWith e (some (.Name x pos')) pos.line X.env=pure false:=by rfl)(hf:X.fn x=true∨X.env.scope.names.lookup x=some .local:=by first|exact .inl rfl|exact .inr rfl|assumption):
  PS X (.Assign [.Name x pos'] e pos) (UZ te (FE i)):=by
 intro pins s σ H D I h;refine wpAny_Assign_Name (thn (he pins s σ H _ I h) λv s1 ⟨y,H1,I1,r1,q1⟩=>?_) hs;exact OC I1 hN hi hx r1 (λs2 I2=>⟨_,H1,I2,q1⟩) hf
end
set_option genInjectivity false in
structure It where
 go:Nat->Hp->Prop
 yld:Nat->Hp->V->Hp->Prop
 stop:Nat->Hp->Prop
def GB(X:Cx)(pins:List (Addr×Obj))(H:Hp)(b:Addr):Prop:=
 H b=none/\b≠X.env.locals/\b∉X.fs/\(b∈X.ex∨X.s₀.heap.objs.size<=b)/\(∀x c,X.env.cells.lookup x=some c->c≠b)/\∀p∈X.pn++pins,p.1≠b
theorem Inv.fpOk(I:Inv X pins σ H s)(hb:s.heap.objs.size<=b)(hn:H' b=none):GB X pins H' b:=by
 refine⟨hn,Nat.ne_of_gt (AAM I.lt hb),I.nofs hb,.inr (AAq I.sz hb),λx c e z=>?_,λp hp z=>?_⟩
 ·obtain⟨v,q⟩:=I.cell x c e;exact absurd (AAM q.lt (by rw[z];exact hb)) (AAu _)
 ·exact absurd (AAM (Heap.lt_size (I.pin p hp).1) (by rw[z];exact hb)) (AAu _)
structure Jd(P:Program)(w:World)(K:PySem.W.Frag)(tg:Expr)(J:It)(fp:List Addr)(it:Addr)(tn:Nat->Heap->Prop):Prop where
 mem:it∈fp
 obj:∀i h,tn i h->∀b∈fp,∃o,h.get? b=some o/\∀v,o.data≠.cell v
 keep:∀i h h',tn i h->(∀b∈fp,∀o,h.get? b=some o->h'.get? b=some o)->tn i h'
 item:∀(X:Cx),X.prog=P->X.w=w->X.K=K->X.calm=true->∀(i:Nat) (pins:List (Addr×Obj)) (s:Shared) (σ:St) (H:Hp) (E:Value->Shared->Prop),Inv X pins σ H s->(∀b∈fp,GB X pins H b)->tn i s.heap->J.go i H->
  wpAny (model P w) X.A (pyNext (.ref it)) (λr s1=>∃u,r=some u /\
   wpAny (model P w) X.A (letOwnedTupleGo tg (.ref it) u) (λ_ s2=>∃x H',Inv X pins σ H' s2/\RelV x u/\J.yld i H x H'/\tn (i+1) s2.heap/\∀b∈fp,H' b=none) E s1) E s
 done:∀(X:Cx),X.prog=P->X.w=w->X.K=K->X.calm=true->∀(i:Nat) (pins:List (Addr×Obj)) (s:Shared) (σ:St) (H:Hp) (E:Value->Shared->Prop),Inv X pins σ H s->(∀b∈fp,GB X pins H b)->tn i s.heap->J.stop i H->
  wpAny (model P w) X.A (pyNext (.ref it)) (λr s1=>r=none/\Inv X pins σ H s1) E s
 self:∀(A:Around) (i:Nat) (s:Shared) (Q:Value->Shared->Prop) (E:Value->Shared->Prop),tn i s.heap->Q (.ref it) s->wpAny (model P w) A (pyIter (.ref it)) Q E s
noncomputable abbrev TI:=St->Hp->(It->Hp->Prop)->Prop
def PIE(X:Cx)(pins:List (Addr×Obj))(σ:St)(tg:Expr)(R:It->Hp->Prop)(itv:Value)(s2:Shared):Prop:=
 ∃(it:Addr) (fp:List Addr) (tn:Nat->Heap->Prop) (J:It) (H':Hp),itv=.ref it/\Inv X pins σ H' s2/\Jd X.prog X.w X.K tg J fp it tn/\tn 0 s2.heap/\(∀b∈fp,GB X pins H' b)/\R J H'
def PI(X:Cx)(tg iter:Expr)(wi:TI):Prop:=
 ∀(pins:List (Addr×Obj)) (s:Shared) (σ:St) (H:Hp) (R:It->Hp->Prop),Inv X pins σ H s->wi σ H R->
  wpAny (model X.prog X.w) X.A (eval iter X.env) (λv s1=>wpAny (model X.prog X.w) X.A (pyIter v) (PIE X pins σ tg R) X.xe s1) X.xe s
theorem Rk(ho:s.heap.get? it=some o)(hc:o.cls=.type n)(hd:o.data=.fields vs)
  (hn:["enumerate", "zip", "dict_itemiterator", "dict_reverseitemiterator", "odict_iterator", "itertools.zip_longest", "itertools.pairwise"].contains n=false) (hQ:Q () s):wpAny M A (letOwnedTupleGo tg (.ref it) u) Q E s:=by
 unfold letOwnedTupleGo;cases tg<;>first
  |exact AAB hQ
  |(cases u<;>first
    |exact AAB hQ
    |(refine AAA (wpAny_load ho ?_);rw[hc,hd];show wpAny M A (if (["enumerate", "zip", "dict_itemiterator", "dict_reverseitemiterator", "odict_iterator", "itertools.zip_longest", "itertools.pairwise"].contains n&&vs[0]?==some (rawInt _))=true then _ else _) Q E s;rw[if_neg (by intro h;rw[hn,Bool.false_and] at h;cases h)];exact AAB hQ))
noncomputable def Itl(K:PySem.W.Frag)(a:Addr):It:=
 ⟨λi H=>∃xs x,SqL K H a xs/\xs[i]?=some x,λi H x H'=>H'=H/\∀xs,SqL K H a xs->xs[i]?=some x,λi H=>∃xs,SqL K H a xs/\xs.length<=i⟩
noncomputable def Itt(K:PySem.W.Frag)(a:Addr):It:=
 ⟨λi H=>∃xs x,SqT K H a xs/\xs[i]?=some x,λi H x H'=>H'=H/\∀xs,SqT K H a xs->xs[i]?=some x,λi H=>∃xs,SqT K H a xs/\xs.length<=i⟩
noncomputable def Itr(lo:Int)(n:Nat):It:=⟨λi _=>i<n,λi H x H'=>H'=H/\x=.int (lo+i),λi _=>n<=i⟩
theorem SK{P:Program}{w:World}{K:PySem.W.Frag}{tg:Expr}(a it:Addr):Jd P w K tg (Itl K a) [it] it (λi h=>h.IsListIter it a i) where
 mem:=by simp
 obj:=λi h st b hb=>by
  have e:b=it:=by simpa using hb
  subst e;obtain⟨o,e,c,d⟩:=st;exact⟨o,e,λv z=>by rw[d] at z;cases z⟩
 keep:=λi h h' st k=>st.at λo e=>k it (by simp) o e
 item:=by
  intro X hP hw hK hc i pins s σ H E I hf st hg;subst hP hw hK;obtain⟨xs,x,hq,hx⟩:=hg;obtain⟨its,rv,p,hz⟩:=I.list hq;obtain⟨u,hu,ru⟩:=rv.get hx;obtain⟨f0,f1,f2,f3,f4,f5⟩:=hf it (by simp);refine wpAny_pyNext_list_item st p.isList (x:=u) (by simpa using hu) λh' st' sb=>?_;have I1:Inv X pins σ H { s with heap:=h' }:=I.turned (t':=s.toks) (λb o hb e=>(sb.2 b hb).trans e) f0 f1 f3 f4 f5;obtain⟨o,e,c,d⟩:=id st';exact⟨u,rfl,Rk (s:={ s with heap:=h' }) e c d (by decide) ⟨x,H,I1,ru,⟨rfl,λys hy=>by rw[I.list_inj hy hq];exact hx⟩,st',λb hb=>(hf b hb).1⟩⟩
 done:=by
  intro X hP hw hK hc i pins s σ H E I hf st hg;subst hP hw hK;obtain⟨xs,hq,hx⟩:=hg;obtain⟨its,rv,p,hz⟩:=I.list hq;obtain⟨f0,f1,f2,f3,f4,f5⟩:=hf it (by simp);have hl:=rv.length;exact wpAny_pyNext_list_end (I.ok.hd hc) st p.isList (by simp;omega) λh' eb=>⟨rfl,I.turned (t':=s.toks) (λb o hb e=>eb b o hb e) f0 f1 f3 f4 f5⟩
 self:=λ_ _ _ _ _ st h=>wpAny_pyIter_listiter st h
theorem PU{P:Program}{w:World}{K:PySem.W.Frag}{tg:Expr}(a it:Addr):Jd P w K tg (Itt K a) [it] it (λi h=>h.IsTupleIter it a i) where
 mem:=by simp
 obj:=λi h st b hb=>by
  have e:b=it:=by simpa using hb
  subst e;obtain⟨o,e,c,d⟩:=st;exact⟨o,e,λv z=>by rw[d] at z;cases z⟩
 keep:=λi h h' st k=>st.at λo e=>k it (by simp) o e
 item:=by
  intro X hP hw hK hc i pins s σ H E I hf st hg;subst hP hw hK;obtain⟨xs,x,hq,hx⟩:=hg;obtain⟨its,rv,p,hz⟩:=I.tuple hq;obtain⟨u,hu,ru⟩:=rv.get hx;obtain⟨f0,f1,f2,f3,f4,f5⟩:=hf it (by simp);refine wpAny_pyNext_tuple_item st (show s.heap.IsTuple a its.toArray from p) (x:=u) (by simpa using hu) λh' st' sb=>?_;have I1:Inv X pins σ H { s with heap:=h' }:=I.turned (t':=s.toks) (λb o hb e=>(sb.2 b hb).trans e) f0 f1 f3 f4 f5;obtain⟨o,e,c,d⟩:=id st';exact⟨u,rfl,Rk (s:={ s with heap:=h' }) e c d (by decide) ⟨x,H,I1,ru,⟨rfl,λys hy=>by rw[I.tuple_inj hy hq];exact hx⟩,st',λb hb=>(hf b hb).1⟩⟩
 done:=by
  intro X hP hw hK hc i pins s σ H E I hf st hg;subst hP hw hK;obtain⟨xs,hq,hx⟩:=hg;obtain⟨its,rv,p,hz⟩:=I.tuple hq;obtain⟨f0,f1,f2,f3,f4,f5⟩:=hf it (by simp);have hl:=rv.length;exact wpAny_pyNext_tuple_end (I.ok.hd hc) st (show s.heap.IsTuple a its.toArray from p) (by simp;omega) λh' eb=>⟨rfl,I.turned (t':=s.toks) (λb o hb e=>eb b o hb e) f0 f1 f3 f4 f5⟩
 self:=λ_ _ _ _ _ st h=>wpAny_pyIter_tupleiter st h
theorem PV{P:Program}{w:World}{K:PySem.W.Frag}{tg:Expr}(it:Addr)(lo:Int)(n:Nat):Jd P w K tg (Itr lo n) [it] it (λi h=>IsRangeIter h it (lo+(i:Nat) * 1) ((n:Int)-(i:Nat)) 1) where
 mem:=by simp
 obj:=λi h st b hb=>by
  have e:b=it:=by simpa using hb
  subst e;exact⟨_,st,λv z=>by
   have z':Data.fields _=Data.cell v:=z;cases z'⟩
 keep:=λi h h' st k=>k it (by simp) _ st
 item:=by
  intro X hP hw hK hc i pins s σ H E I hf st hg;subst hP hw hK;obtain⟨f0,f1,f2,f3,f4,f5⟩:=hf it (by simp);have W:=Walks.range (prog:=X.prog) (w:=X.w) (I.ok.hd hc) it lo 1 n;refine W.item i s _ _ hg st λv h' tk hv st' kk=>?_;obtain⟨t,rfl⟩:=hv;have I1:Inv X pins σ H { s with heap:=h',toks:=tk }:=I.turned (λb o hb e=>kk b o (by simpa using hb) e) f0 f1 f3 f4 f5;refine⟨_,rfl,Rk (s:={ s with heap:=h',toks:=tk }) (n := "range_iterator") st' rfl rfl (by decide) ⟨.int (lo+i),H,I1,⟨t,?_⟩,⟨rfl,rfl⟩,st',λb hb=>(hf b hb).1⟩⟩;rw[Int.mul_one]
 done:=by
  intro X hP hw hK hc i pins s σ H E I hf st hg;subst hP hw hK;obtain⟨f0,f1,f2,f3,f4,f5⟩:=hf it (by simp);exact wpAny_pyNext_range_end (I.ok.hd hc) st (by have:n<=i:=hg;omega) λh' eb=>⟨rfl,I.turned (t':=s.toks) (λb o hb e=>eb b o hb e) f0 f1 f3 f4 f5⟩
 self:=λ_ _ _ _ _ st h=>wpAny_pyIter_rangeiter st h
section
variable{X:Cx}{tg:Expr}
noncomputable def Yu(K:PySem.W.Frag)(tl:TE):TI:=λσ H R=>tl σ H λx H1=>∃a,x=.ref a/\(∃xs,SqL K H1 a xs)/\R (Itl K a) H1
noncomputable def dF(K:PySem.W.Frag)(tl:TE):TI:=λσ H R=>tl σ H λx H1=>∃a,x=.ref a/\(∃xs,SqT K H1 a xs)/\R (Itt K a) H1
theorem Q7{l:Expr}{tl:TE}(hl:PE X l tl):PI X tg l (Yu X.K tl):=by
 intro pins s σ H R I h;refine thn (hl pins s σ H _ I h) λv s1 ⟨x,H1,I1,r1,q1⟩=>?_;obtain⟨a,e,⟨xs,hq⟩,q⟩:=q1;subst e;cases r1;obtain⟨its,rv,p,hz⟩:=I1.list hq;refine wpAny_pyIter_list p.isList ?_;refine⟨s1.heap.objs.size,[s1.heap.objs.size],_,_,H1,rfl,I1.kept (t':=s1.toks) λb o e=>AAC _ e,SK a _,⟨_,AAD _ rfl,rfl,rfl⟩,λb hb=>?_,q⟩;have e:b=s1.heap.objs.size:=by simpa using hb
 subst e;exact I1.fpOk (AAE _) (I1.hok.fresh (AAE _))
theorem Zl{l:Expr}{tl:TE}(hl:PE X l tl):PI X tg l (dF X.K tl):=by
 intro pins s σ H R I h;refine thn (hl pins s σ H _ I h) λv s1 ⟨x,H1,I1,r1,q1⟩=>?_;obtain⟨a,e,⟨xs,hq⟩,q⟩:=q1;subst e;cases r1;obtain⟨its,rv,p,hz⟩:=I1.tuple hq;refine wpAny_pyIter_tuple (show s1.heap.IsTuple a its.toArray from p) ?_;refine⟨s1.heap.objs.size,[s1.heap.objs.size],_,_,H1,rfl,I1.kept (t':=s1.toks) λb o e=>AAC _ e,PU a _,⟨_,AAD _ rfl,rfl,rfl⟩,λb hb=>?_,q⟩;have e:b=s1.heap.objs.size:=by simpa using hb
 subst e;exact I1.fpOk (AAE _) (I1.hok.fresh (AAE _))
theorem U2{pins:List (Addr×Obj)}{σ:St}{H:Hp}{s:Shared}{lo hi:Int}{t u v:Tok}{tk:Nat}(I:Inv X pins σ H s)(h1:-(2 ^ 62)<=lo)(h2:lo<2 ^ 62)(h3:-(2 ^ 62)<=hi)(h4:hi<2 ^ 62)
  (q:R (Itr lo (hi-lo).toNat) H):wpAny (model X.prog X.w) X.A (pyIter (.ref s.heap.objs.size)) (PIE X pins σ tg R) E { s with heap:=s.heap.push { cls:=.type "range",data:=.fields #[.int lo t,.int hi u,.int 1 v] },toks:=tk }:=by
 refine wpAny_pyIter_range (IsRange.new ..) (small_one h1 h2 h3 h4) ?_;have I1:Inv X pins σ H { s with heap:=s.heap.push { cls:=.type "range",data:=.fields #[.int lo t,.int hi u,.int 1 v] },toks:=tk }:=I.kept λb o e=>AAC _ e;refine⟨(s.heap.push { cls:=.type "range",data:=.fields #[.int lo t,.int hi u,.int 1 v] }).objs.size,[(s.heap.push { cls:=.type "range",data:=.fields #[.int lo t,.int hi u,.int 1 v] }).objs.size],_,_,H,rfl,
  I1.kept (t':=tk) λb o e=>AAC _ e,PV _ lo (hi-lo).toNat,?_,λb hb=>?_,q⟩
 ·have e1:lo+((0:Nat):Int) * 1=lo:=by simp
  have e2:(((hi-lo).toNat:Nat):Int)-((0:Nat):Int)=Builtin.Range.rangeSize lo hi 1:=by rw[rangeSize_one];split<;>omega
  show IsRangeIter _ _ (lo+((0:Nat):Int) * 1) ((((hi-lo).toNat:Nat):Int)-((0:Nat):Int)) 1;rw[e1,e2];exact AAD _ rfl
 ·have e:b=(s.heap.push { cls:=.type "range",data:=.fields #[.int lo t,.int hi u,.int 1 v] }).objs.size:=by simpa using hb
  subst e;exact I1.fpOk (AAE _) (I1.hok.fresh (AAE _))
noncomputable def dG(ta:TA):TI:=λσ H R=>ta σ H λvs H1=>∃j:Int,vs=[.int j]/\-(2 ^ 62)<=j/\j<2 ^ 62/\R (Itr 0 j.toNat) H1
theorem Sd{a:Expr}{p pos:Pos}(hg:Gl X "range")(hm:X.mg "range" = none)(ha:PA X [a] ta)(hs:starEach [a] X.env=[(false,eval a X.env)]:=by rfl):PI X tg (.Call (.Name "range" p) [a] [] pos) (dG ta):=by
 intro pins s σ H R I h;refine Call_ (F4 I hg hm boot_range (PyProof.Rows.callWith_type1 (thn (ha pos pins s σ H _ I h) λus s1 ⟨vs,H1,I1,r1,q1⟩=>?_) hs rfl));obtain⟨j,e,q1,q2,q⟩:=q1;subst e;cases r1 with
 |cons r rr=>
  cases rr;obtain⟨t,rfl⟩:=r;exact call_range_1 (U2 I1 (by omega) (by omega) q1 q2 (by simpa using q))
noncomputable def d7(wi:TI)(g:TG)(tb:TS):TS:=λD σ H=>wi σ H λJ H1=>∃W:Nat->Nat->St->Hp->Prop,(∃m,W 0 m σ H1)/\∀i m σ H,W i m σ H->
 (J.stop i H/\D.nx σ H)∨(J.go i H/\∃N:St->Hp->Prop,(∀σ' H',N σ' H'->∃m',m'<m/\W (i+1) m' σ' H')/\∀x H',J.yld i H x H'->g x σ H' λσ2 H2=>tb { D with nx:=N,ct:=N,bk:=D.nx } σ2 H2)
noncomputable def NB(fp:List Addr)(h:Heap):List (Addr×Obj):=fp.filterMap λb=>(h.get? b).map λo=>(b,o)
theorem CM(hb:b∈fp)(e:h.get? b=some o):(b,o)∈NB fp h:=List.mem_filterMap.mpr ⟨b,hb,by rw[e];rfl⟩
theorem Si(hp:p∈NB fp h):p.1∈fp/\h.get? p.1=some p.2:=by
 obtain⟨b,hb,e⟩:=List.mem_filterMap.mp hp;cases q:h.get? b with
 |none=>rw[q] at e;cases e
 |some o=>
  rw[q] at e;have e':(b,o)=p:=Option.some.inj e;subst e';exact⟨hb,q⟩
theorem Inv.pinned(I:Inv X pins σ H s)(hf:∀b∈fp,GB X pins H b)(ho:∀b∈fp,∃o,s.heap.get? b=some o/\∀v,o.data≠.cell v):Inv X (pins++NB fp s.heap) σ H s:=
 I.pins_of λp hp=>(AAJ.mp hp).elim (λz=>I.pin p (AAZ _ z)) λz=>by
  obtain⟨hb,e⟩:=Si z;obtain⟨f0,f1,f2,_⟩:=hf p.1 hb;obtain⟨o,e',d⟩:=ho p.1 hb;rw[e] at e';cases e';exact⟨e,f0,f1,f2,d⟩
theorem Inv.unpinned(I:Inv X (pins++pl) σ H s):Inv X pins σ H s:=I.pins_of λp hp=>I.pin p (AAZ _ (AAa _ hp))
theorem Zh(hp:PassesOwn (model X.prog X.w) X.A X.env X.xe)(hc:X.calm=true)(hi:PI X tg iter wi)(hg:PG X tg g)(hb:PSs X body tb)
  (hs:∀x,foldedSetIterable iter X.env x=pure x:=by intro _;rfl):PS X (.For tg iter body [] pos) (d7 wi g tb):=by
 intro pins s σ H D I h;refine wpAny_For (thn (hi pins s σ H _ I h) λv s1 h1=>thn h1 λitv s2 h2=>?_) hs;obtain⟨it,fp,tn,J,H2,e,I2,T,st2,f2,W,⟨m0,w0⟩,turn⟩:=h2;subst e;have stat:∀{H':Hp},(∀b∈fp,H' b=none)->∀b∈fp,GB X pins H' b:=λhn b hb=>⟨hn b hb,(f2 b hb).2⟩;refine codeAny_forLoop_any (λn s'=>∃i σ' H',Inv X pins σ' H' s'/\tn i s'.heap/\(∀b∈fp,H' b=none)/\W i n σ' H') ?_ m0 ⟨0,σ,H2,I2,st2,λb hb=>(f2 b hb).1,w0⟩;rintro n s3 ⟨i,σ3,H3,I3,st3,fr3,w3⟩;rcases turn i n σ3 H3 w3 with ⟨stop,qn⟩|⟨go,N,hN,step⟩
 ·refine wpAny_passesOwn hp (thn (T.done X rfl rfl rfl hc i pins s3 σ3 H3 X.xe I3 (stat fr3) st3 stop) λr s4 ⟨hr,I4⟩=>?_);subst hr;exact wpAny_execs_nil ⟨σ3,H3,I4,qn⟩
 ·refine wpAny_passesOwn hp (thn (T.item X rfl rfl rfl hc i pins s3 σ3 H3 X.xe I3 (stat fr3) st3 go) λr s4 ⟨u,hr,h4⟩=>?_);subst hr;refine wpAny_passesOwn hp (thn h4 λ_ s5 ⟨x,H5,I5,r5,y5,st5,fr5⟩=>?_);have I5':=I5.pinned (stat fr5) (T.obj _ _ st5);refine wpAny_passesOwn hp (thn (hg _ s5 σ3 H5 x u _ I5' r5 (step x H5 y5)) λ_ s6 ⟨σ6,H6,I6,q6⟩=>?_);refine wpAny_passesOwn hp (thn (hb _ s6 σ6 H6 _ I6 q6) λf s7 q7=>?_);have again:∀{σ7:St} {H7:Hp},Inv X (pins++NB fp s5.heap) σ7 H7 s7->N σ7 H7->∃m,m<n/\∃i σ' H',Inv X pins σ' H' s7/\tn i s7.heap/\(∀b∈fp,H' b=none)/\W i m σ' H':=λ{σ7 H7} I7 n7=>by
   obtain⟨m',hm,w7⟩:=hN σ7 H7 n7;refine⟨m',hm,i+1,σ7,H7,I7.unpinned,T.keep _ _ _ st5 λb hb o e=>(I7.pin (b,o) (AAZ _ (AAZ _ (CM hb e)))).1,λb hb=>?_,w7⟩;obtain⟨o,e,d⟩:=T.obj _ _ st5 b hb;exact(I7.pin (b,o) (AAZ _ (AAZ _ (CM hb e)))).2.1
  cases f with
  |next=>obtain⟨σ7,H7,I7,n7⟩:=q7;exact again I7 n7
  |cont=>obtain⟨σ7,H7,I7,n7⟩:=q7;exact again I7 n7
  |brk=>obtain⟨σ7,H7,I7,q7⟩:=q7;exact⟨σ7,H7,I7.unpinned,q7⟩
  |ret v=>obtain⟨x7,σ7,H7,I7,r7,q7⟩:=q7;exact⟨x7,σ7,H7,I7.unpinned,r7,q7⟩
end
noncomputable abbrev R2:=V->V->Hp->VK->Prop
def OpR(X:Cx)(f:Value->Value->Sem Value)(r:R2):Prop:=
 ∀(pins:List (Addr×Obj)) (s:Shared) (σ:St) (H:Hp) (x y:V) (v u:Value) (Q:VK),Inv X pins σ H s->RelV x v->RelV y u->r x y H Q->
  wpAny (model X.prog X.w) X.A (f v u) (EP X pins σ Q) X.xe s
def UnR(X:Cx)(f:Value->Sem Value)(r:V->Hp->VK->Prop):Prop:=
 ∀(pins:List (Addr×Obj)) (s:Shared) (σ:St) (H:Hp) (x:V) (v:Value) (Q:VK),Inv X pins σ H s->RelV x v->r x H Q->
  wpAny (model X.prog X.w) X.A (f v) (EP X pins σ Q) X.xe s
def Cd(X:Cx)(f:Value)(r:List V->Hp->VK->Prop):Prop:=
 ∀(pins:List (Addr×Obj)) (s:Shared) (σ:St) (H:Hp) (xs:List V) (us:List Value) (Q:VK),Inv X pins σ H s->Vals xs us->r xs H Q->
  wpAny (model X.prog X.w) X.A (call f us) (EP X pins σ Q) X.xe s
noncomputable def tOp(r:R2)(ta tb:TE):TE:=λσ H Q=>ta σ H λx H1=>tb σ H1 λy H2=>r x y H2 Q
noncomputable def tUn(r:V->Hp->VK->Prop)(ta:TE):TE:=λσ H Q=>ta σ H λx H1=>r x H1 Q
noncomputable def rI(C:Int->Int->Prop)(g:Int->Int->V):R2:=λx y H Q=>∃i j,x=.int i/\y=.int j/\C i j/\Q (g i j) H
noncomputable def rI0(g:Int->Int->V):R2:=λx y H Q=>∃i j,x=.int i/\y=.int j/\Q (g i j) H
noncomputable def rU(g:Int->V):V->Hp->VK->Prop:=λx H Q=>∃i,x=.int i/\Q (g i) H
section
variable{X:Cx}{a b:Expr}{ta tb:TE}{pos:Pos}
theorem bI(ha:PE X a ta)(hb:PE X b tb){pins:List (Addr×Obj)}{s:Shared}{H:Hp}{R:V->V->Hp->Prop}(I:Inv X pins σ H s)
  (h:ta σ H λx H1=>tb σ H1 λy H2=>R x y H2) {Q:Value->Shared->Prop} {f:Value->Value->Sem Value}
  (hf:∀v u s2 x y H2,Inv X pins σ H2 s2->RelV x v->RelV y u->R x y H2->wpAny (model X.prog X.w) X.A (f v u) Q X.xe s2) :
  wpAny (model X.prog X.w) X.A (eval a X.env) (λv s₁=>wpAny (model X.prog X.w) X.A (eval b X.env) (λu s₂=>wpAny (model X.prog X.w) X.A (f v u) Q X.xe s₂) X.xe s₁) X.xe s:=by
 refine thn (ha pins s σ H _ I h) λv s1 ⟨x,H1,I1,r1,q1⟩=>?_;refine thn (hb pins s1 σ H1 _ I1 q1) λu s2 ⟨y,H2,I2,r2,q2⟩=>?_;exact hf v u s2 x y H2 I2 r1 r2 q2
theorem cP{op:Operator}{r:R2}(ho:OpR X (binaryOp op) r)(ha:PE X a ta)(hb:PE X b tb):PE X (.BinOp a op b pos) (tOp r ta tb):=by
 intro pins s σ H Q I h;exact wpAny_BinOp (bI ha hb I h λv u s2 x y H2 I2 rx ry q=>ho pins s2 σ H2 x y v u Q I2 rx ry q)
theorem cN(ho:UnR X (unaryOp op) r)(ha:PE X a ta):PE X (.UnaryOp op a pos) (tUn r ta):=by
 intro pins s σ H Q I h;exact UnaryOp_ (thn (ha pins s σ H _ I h) λv s1 ⟨x,H1,I1,r1,q1⟩=>ho pins s1 σ H1 x v Q I1 r1 q1)
theorem opI{f:Value->Value->Sem Value}{g:Int->Int->Int}
  (rule:∀(i j:Int) (t u:Tok) (s:Shared) (Q:Value->Shared->Prop) (E:Value->Shared->Prop),C i j->Q (.int (g i j) s.toks) { s with toks:=s.toks+1 }->wpAny (model X.prog X.w) X.A (f (.int i t) (.int j u)) Q E s) :
  OpR X f (rI C λi j=>.int (g i j)):=by
 intro pins s σ H x y v u Q I rx ry h;obtain⟨i,j,rfl,rfl,hc,q⟩:=h;obtain⟨t,rfl⟩:=rx;obtain⟨t',rfl⟩:=ry;exact rule i j t t' s _ _ hc ⟨.int (g i j),H,I.tok _,⟨_,rfl⟩,q⟩
theorem ce{g:Int->Int->Int}
  (rule:∀(i j:Int) (t u:Tok) (s:Shared) (Q:Value->Shared->Prop) (E:Value->Shared->Prop),Q (.int (g i j) s.toks) { s with toks:=s.toks+1 }->wpAny (model X.prog X.w) X.A (f (.int i t) (.int j u)) Q E s) :
  OpR X f (rI0 λi j=>.int (g i j)):=by
 intro pins s σ H x y v u Q I rx ry h;obtain⟨i,j,rfl,rfl,q⟩:=h;obtain⟨t,rfl⟩:=rx;obtain⟨t',rfl⟩:=ry;exact rule i j t t' s _ _ ⟨.int (g i j),H,I.tok _,⟨_,rfl⟩,q⟩
theorem Xm{g:Int->Int->Bool}
  (rule:∀(i j:Int) (t u:Tok) (s:Shared) (Q:Value->Shared->Prop) (E:Value->Shared->Prop),Q (.bool (g i j)) s->wpAny (model X.prog X.w) X.A (f (.int i t) (.int j u)) Q E s) :
  OpR X f (rI0 λi j=>.bl (g i j)):=by
 intro pins s σ H x y v u Q I rx ry h;obtain⟨i,j,rfl,rfl,q⟩:=h;obtain⟨t,rfl⟩:=rx;obtain⟨t',rfl⟩:=ry;exact rule i j t t' s _ _ ⟨.bl (g i j),H,I,rfl,q⟩
def eo(i j:Int):Prop:=0<j/\j<1073741824
def en(i j:Int):Prop:=0<=j/\j<=1000000/\i.natAbs<2 ^ 64
def CMul(i j:Int):Prop:=(-(2 ^ 64)<i/\i<2 ^ 64)∨(-(2 ^ 64)<j/\j<2 ^ 64)
theorem CMul.ok(h:CMul i j):IntMulOk i j:=by
 rcases h with ⟨h1,h2⟩|⟨h1,h2⟩
 ·exact .of_left (intBits_le_64 h1 h2)
 ·exact .of_right (intBits_le_64 h1 h2)
theorem aE:OpR X (binaryOp .Add) (rI0 λi j=>.int (i+j)):=ce λ_ _ _ _ _ _ _ q=>add_int q
theorem Z6:OpR X (binaryOp .Sub) (rI0 λi j=>.int (i-j)):=ce λ_ _ _ _ _ _ _ q=>sub_int q
theorem aA:OpR X (binaryOp .Mult) (rI CMul λi j=>.int (i * j)):=opI λ_ _ _ _ _ _ _ hc q=>mul_int q hc.ok
theorem Xk:OpR X (binaryOp .FloorDiv) (rI eo λi j=>.int (i / j)):=opI λi j _ _ _ _ _ hc q=>by
 have h1:(0:Int)<j:=hc.1;have h2:j<1073741824:=hc.2;exact floordiv_int (by omega) (by rw[Int.fdiv_eq_ediv_of_nonneg i (by omega)];exact q) (.inl (PyProof.noPylong_small (by omega)))
theorem aB:OpR X (binaryOp .Mod) (rI (λ_ j=>0<j) λi j=>.int (i % j)):=opI λi j _ _ _ _ _ hc q=>by
 have h1:(0:Int)<j:=hc;exact mod_int' (by omega) (by rw[Int.fmod_eq_emod_of_nonneg i (by omega)];exact q)
theorem Z8:OpR X (binaryOp .Pow) (rI en λi j=>.int (i ^ j.toNat)):=opI λ_ _ _ _ _ _ _ hc q=>pow_int_small hc.1 hc.2.1 hc.2.2 q
theorem unI{g:Int->Int}
  (rule:∀(i:Int) (t:Tok) (s:Shared) (Q:Value->Shared->Prop) (E:Value->Shared->Prop),Q (.int (g i) s.toks) { s with toks:=s.toks+1 }->wpAny (model X.prog X.w) X.A (f (.int i t)) Q E s) :
  UnR X f (rU λi=>.int (g i)):=by
 intro pins s σ H x v Q I rx h;obtain⟨i,rfl,q⟩:=h;obtain⟨t,rfl⟩:=rx;exact rule i t s _ _ ⟨.int (g i),H,I.tok _,⟨_,rfl⟩,q⟩
theorem Y9:UnR X (unaryOp .USub) (rU λi=>.int (-i)):=unI λ_ _ _ _ _ q=>neg_int q
end
section
variable{X:Cx}{a b c:Expr}{ta tb tc:TE}{pos:Pos}
theorem NX(I:Inv X pins σ H s)(q:Q (.bl k) H)(e:k=k'):EP X pins σ Q (.bool k') s:=by
 subst e;exact⟨.bl k,H,I,rfl,q⟩
theorem cX:OpR X (compareOp .Lt) (rI0 λi j=>.bl (decide (i<j))):=Xm λ_ _ _ _ _ _ _ q=>lt_int q
theorem cY:OpR X (compareOp .LtE) (rI0 λi j=>.bl (decide (i<=j))):=Xm λ_ _ _ _ _ _ _ q=>le_int q
theorem cZ:OpR X (compareOp .Gt) (rI0 λi j=>.bl (decide (j<i))):=Xm λ_ _ _ _ _ _ _ q=>gt_int q
theorem cb:OpR X (compareOp .GtE) (rI0 λi j=>.bl (decide (j<=i))):=Xm λ_ _ _ _ _ _ _ q=>ge_int q
theorem Sg:OpR X (compareOp .In) (λx y H Q=>∃i j,x=.str i/\y=.str j/\Q (.bl (!(Builtin.Str.occurrences j i 0 j.length 1).isEmpty)) H):=by
 intro pins s σ H x y v u Q I rx ry h;obtain⟨i,j,rfl,rfl,q⟩:=h;obtain⟨t,rfl⟩:=rx;obtain⟨t',rfl⟩:=ry;exact in_str (NX I q rfl)
theorem aC:OpR X (compareOp .Is) (λx y H Q=>y=.non/\Q (.bl (decide (x=.non))) H):=by
 intro pins s σ H x y v u Q I rx ry h;obtain⟨rfl,q⟩:=h;cases ry;refine is_none_gen (NX I q ?_);cases x<;>first
  |(cases rx;rfl)
  |(obtain⟨t,rfl⟩:=rx;rfl)
theorem Xj:OpR X (compareOp .IsNot) (λx y H Q=>y=.non/\Q (.bl (!decide (x=.non))) H):=by
 intro pins s σ H x y v u Q I rx ry h;obtain⟨rfl,q⟩:=h;cases ry;refine isnot_none_gen (NX I q ?_);cases x<;>first
  |(cases rx;rfl)
  |(obtain⟨t,rfl⟩:=rx;rfl)
theorem ND:OpR X (compareOp .NotIn) (λx y H Q=>∃i j,x=.str i/\y=.str j/\Q (.bl (!(!(Builtin.Str.occurrences j i 0 j.length 1).isEmpty))) H):=by
 intro pins s σ H x y v u Q I rx ry h;obtain⟨i,j,rfl,rfl,q⟩:=h;obtain⟨t,rfl⟩:=rx;obtain⟨t',rfl⟩:=ry;exact notIn_str (NX I q rfl)
theorem Vb(b:Expr)(h:op≠.In:=by decide)(h2:op≠.NotIn:=by decide):behindInMarks op b=false:=by
 have e1:(op==CmpOp.In)=false:=by cases op<;>first|rfl|exact absurd rfl h
 have e2:(op==CmpOp.NotIn)=false:=by cases op<;>first|rfl|exact absurd rfl h2
 cases b<;>simp[behindInMarks,e1,e2]
theorem Xf{r:R2}(ho:OpR X (compareOp op) r)(ha:PE X a ta)(hb:PE X b tb)(hm:behindInMarks op b=false):PE X (.Compare a [op] [b] pos) (tOp r ta tb):=by
 intro pins s σ H Q I h;exact wpAny_Compare1 (bI ha hb I h λv u s2 x y H2 I2 rx ry q=>ho pins s2 σ H2 x y v u Q I2 rx ry q) hm
noncomputable def Yd(t:TE):TT:=λσ H Q=>t σ H λx H'=>∃k,x=.bl k/\Q k H'
theorem XR(ho:OpR X (compareOp op) r)(ha:PE X a ta)(hb:PE X b tb)(hm:behindInMarks op b=false):PT X (.Compare a [op] [b] pos) (Yd (tOp r ta tb)):=by
 intro pins s σ H Q I h;refine wpAny_isTrue_Compare1 (thn (ha pins s σ H _ I h) λv s1 ⟨x,H1,I1,r1,q1⟩=>thn (hb pins s1 σ H1 _ I1 q1) λu s2 ⟨y,H2,I2,r2,q2⟩=>
  thn (ho pins s2 σ H2 x y v u _ I2 r1 r2 q2) λc s3 ⟨z,H3,I3,r3,k,e,q3⟩=>?_) hm
 subst e;cases r3;exact wpAny_truthy_bool ⟨H3,I3,q3⟩
noncomputable def Pa(r r':R2)(ta tb tc:TE):TE:=λσ H Q=>ta σ H λx H1=>tb σ H1 λy H2=>r x y H2 λz H3=>∃k,z=.bl k /\
 (if k=true then tc σ H3 λw' H4=>r' y w' H4 Q else Q (.bl false) H3)
theorem VS(ho:OpR X (compareOp op) r)(ho':OpR X (compareOp op') r')(ha:PE X a ta)(hb:PE X b tb)(hc:PE X c tc)
  (hm:lastMarks [op,op'] [b,c]=false:=by with_unfolding_all rfl):PE X (.Compare a [op,op'] [b,c] pos) (Pa r r' ta tb tc):=by
 intro pins s σ H Q I h;refine Compare_chain (thn (ha pins s σ H _ I h) λv s1 ⟨x,H1,I1,r1,q1⟩=>chain_link (thn (hb pins s1 σ H1 _ I1 q1) λu s2 ⟨y,H2,I2,r2,q2⟩=>
  thn (ho pins s2 σ H2 x y v u _ I2 r1 r2 q2) λd s3 ⟨z,H3,I3,r3,k,e,q3⟩=>?_)) hm
 subst e;cases r3;refine wpAny_truthy_bool ?_;cases k with
 |false=>exact ite_ff ⟨.bl false,H3,I3,rfl,q3⟩
 |true=>exact ite_tt (chain_last (thn (hc pins s3 σ H3 _ I3 q3) λw' s4 ⟨z',H4,I4,r4,q4⟩=>ho' pins s4 σ H4 y z' u w' Q I4 r2 r4 q4))
theorem VA(ho:OpR X (compareOp op) r)(ho':OpR X (compareOp op') r')(ha:PE X a ta)(hb:PE X b tb)(hc:PE X c tc)
  (hm:lastMarks [op,op'] [b,c]=false:=by with_unfolding_all rfl):PT X (.Compare a [op,op'] [b,c] pos) (Yd (Pa r r' ta tb tc)):=by
 intro pins s σ H Q I h;refine isTrue_chain (thn (ha pins s σ H _ I h) λv s1 ⟨x,H1,I1,r1,q1⟩=>test_link (thn (hb pins s1 σ H1 _ I1 q1) λu s2 ⟨y,H2,I2,r2,q2⟩=>
  thn (ho pins s2 σ H2 x y v u _ I2 r1 r2 q2) λd s3 ⟨z,H3,I3,r3,k,e,q3⟩=>?_)) hm
 subst e;cases r3;refine wpAny_truthy_bool ?_;cases k with
 |false=>
  obtain⟨k',e',q'⟩:=q3;cases e';exact ite_ff ⟨H3,I3,q'⟩
 |true=>
  refine ite_tt (test_last (thn (hc pins s3 σ H3 _ I3 q3) λw' s4 ⟨z',H4,I4,r4,q4⟩=>thn (ho' pins s4 σ H4 y z' u w' _ I4 r2 r4 q4) λd' s5 ⟨z2,H5,I5,r5,k2,e2,q5⟩=>?_));subst e2;cases r5;exact wpAny_truthy_bool ⟨H5,I5,q5⟩
theorem LA:(sizeLine:Nat)<2 ^ 63:=by rw[sizeLine_eq];decide
theorem Pp:OpR X (binaryOp .Add) (λx y H Q=>∃i j,x=.str i/\y=.str j/\i.length+j.length<=sizeLine/\Q (.str (i++j)) H):=by
 intro pins s σ H x y v u Q I rx ry h;obtain⟨i,j,rfl,rfl,hz,q⟩:=h;obtain⟨t,rfl⟩:=rx;obtain⟨t',rfl⟩:=ry;exact add_str (λt' tk=>⟨.str (i++j),H,I.tok _,⟨_,rfl⟩,q⟩) hz
theorem EQ(r:Vals [x] us):∃u,us=[u]/\RelV x u:=by
 cases r with
 |cons r1 r2=>cases r2;exact⟨_,rfl,r1⟩
theorem Lu(r:Vals [x,y] us):∃u w',us=[u,w']/\RelV x u/\RelV y w':=by
 cases r with
 |cons r1 r2=>
  cases r2 with
  |cons r3 r4=>cases r4;exact⟨_,_,rfl,r1,r3⟩
theorem TX(hc:X.calm=true):Cd X (.builtin "max") (λxs H Q=>∃i j,xs=[.int i,.int j]/\Q (.int (if j > i then j else i)) H):=by
 intro pins s σ H xs us Q I r h;obtain⟨i,j,rfl,q⟩:=h;obtain⟨u,w',rfl,⟨t,rfl⟩,⟨t',rfl⟩⟩:=Lu r;refine max_two_ints (I.ok.hd hc) λh' tk k=>⟨_,H,I.kept k,?_,q⟩;by_cases hj:j > i
 ·rw[if_pos hj,if_pos hj];exact⟨_,rfl⟩
 ·rw[if_neg hj,if_neg hj];exact⟨_,rfl⟩
theorem TW(hc:X.calm=true):Cd X (.builtin "min") (λxs H Q=>∃i j,xs=[.int i,.int j]/\Q (.int (if j<i then j else i)) H):=by
 intro pins s σ H xs us Q I r h;obtain⟨i,j,rfl,q⟩:=h;obtain⟨u,w',rfl,⟨t,rfl⟩,⟨t',rfl⟩⟩:=Lu r;refine min_two_ints (I.ok.hd hc) λh' tk k=>⟨_,H,I.kept k,?_,q⟩;by_cases hj:j<i
 ·rw[if_pos hj,if_pos hj];exact⟨_,rfl⟩
 ·rw[if_neg hj,if_neg hj];exact⟨_,rfl⟩
theorem TZ:Cd X (.type "int") (λxs H Q=>(∃i,xs=[.int i]/\Q (.int i) H)∨∃k,xs=[.bl k]/\Q (.int (if k then 1 else 0)) H):=by
 intro pins s σ H xs us Q I r h;rcases h with ⟨i,rfl,q⟩|⟨k,rfl,q⟩
 ·obtain⟨u,rfl,t,rfl⟩:=EQ r;exact call_int_int ⟨.int i,H,I,⟨_,rfl⟩,q⟩
 ·obtain⟨u,rfl,r1⟩:=EQ r;cases r1;exact call_int_bool ⟨.int (if k then 1 else 0),H,I.tok _,⟨_,rfl⟩,q⟩
theorem Nd:Cd X (.type "str") (λxs H Q=>∃i,xs=[.int i]/\i.natAbs.log2<1920/\Q (.str (toString i)) H):=by
 intro pins s σ H xs us Q I r h;obtain⟨i,rfl,hz,q⟩:=h;obtain⟨u,rfl,t,rfl⟩:=EQ r;exact PySem.P.str_of_int hz ⟨.str _,H,I.tok _,⟨_,rfl⟩,q⟩
def eg(K:PySem.W.Frag)(x:V)(H:Hp)(n:Nat):Prop:=
 match x with
 | .str y=>y.length<=sizeLine/\n=y.length
 | .byt y=>y.size<=sizeLine/\n=y.size
 | .ref p=>(∃xs,SqL K H p xs/\n=xs.length)∨∃xs,SqT K H p xs/\n=xs.length
 |_=>False
theorem WM:Cd X (.builtin "len") (λxs H Q=>∃x n,xs=[x]/\eg X.K x H n/\Q (.int n) H):=by
 intro pins s σ H xs us Q I r h;obtain⟨x,n,rfl,e,q⟩:=h;obtain⟨u,rfl,rx⟩:=EQ r;have hl:=LA;have hs:sizeLine=16777216:=sizeLine_eq;cases x with
 |str y=>
  obtain⟨t,rfl⟩:=rx;obtain⟨hy,e'⟩:y.length<=sizeLine/\n=y.length:=e;subst e';exact len_str (by omega) ⟨.int _,H,I.tok _,⟨_,rfl⟩,q⟩
 |byt y=>
  obtain⟨t,rfl⟩:=rx;obtain⟨hy,e'⟩:y.size<=sizeLine/\n=y.size:=e;subst e';exact PySem.W.len_bytes (by omega) ⟨.int _,H,I.tok _,⟨_,rfl⟩,q⟩
 |ref p=>
  cases rx;have e':(∃xs,SqL X.K H p xs/\n=xs.length)∨∃xs,SqT X.K H p xs/\n=xs.length:=e;rcases e' with ⟨xs,hx,e'⟩|⟨xs,hx,e'⟩
  ·subst e';obtain⟨its,r',pl,hz⟩:=I.list hx;have hlen:=r'.length;exact Calls.call_len_list pl.isList (by simp only[List.size_toArray];omega) ⟨.int xs.length,H,I.tok _,⟨_,by simp only[List.size_toArray];rw[hlen]⟩,q⟩
  ·subst e';obtain⟨its,r',pl,hz⟩:=I.tuple hx;have hlen:=r'.length;exact len_tuple pl (by simp only[List.size_toArray];omega) ⟨.int xs.length,H,I.tok _,⟨_,by simp only[List.size_toArray];rw[hlen]⟩,q⟩
 |_=>exact(show False from e).elim
end
structure ObjM(h:Heap)(x dx C:Addr)(mA:Str->Option Value):Prop where
 obj:h.get? x=some (PySem.W.instObj C dx)
 ns:h.Ns1 dx mA
 ne:dx≠x
theorem Ss{h:Heap}{dx:Addr}{mA:Str->Option Value}(n:h.Ns1 dx mA):∃od,h.get? dx=some od/\∀name,PySem.W.lookIn name od=some (mA name):=by
 obtain⟨o,es,ep,ho,hd,hk,_,hm⟩:=n;refine⟨o,ho,λname=>?_⟩;have e:=hm name;unfold nsFind findBy at e;rw[←Array.find?_toList] at e;unfold PySem.W.lookIn;rw[hd];dsimp only;split
 ·rename_i y q;rw[q] at e;exact congrArg some e
 ·rename_i q;rw[q] at e;have a:es.toList.any (·.refKey)=false:=by
   rw[List.any_eq_false];intro y hy;obtain⟨z,t,hkey⟩:=hk y (Array.mem_toList_iff.mp hy);simp[DictEntry.refKey,hkey]
  have a':¬es.toList.any (·.refKey)=true:=by rw[a];exact AAf
  rw[if_neg a'];exact congrArg some e
theorem ObjM.look(I:ObjM h x dx C mA):∃od,PySem.W.InstAt h x (PySem.W.instObj C dx) C (some od)/\∀name,PySem.W.lookIn name od=some (mA name):=
 let ⟨od,ho,hl⟩:=Ss I.ns
 ⟨od,⟨I.obj,rfl,rfl,ho⟩,hl⟩
section
variable{prog:Program}{w:World}{A:Around}{E:Value->Shared->Prop}{s:Shared}{K:PySem.W.Frag}{x dx C f:Addr}{mA:Str->Option Value}{name:Str}{v:Value}
theorem YB(X:K.In s.heap)(I:ObjM s.heap x dx C mA)(hg:PySem.W.plainGet K C name=true)(hh:PySem.W.hasDictIn K C=true)
  (ha:PySem.W.findIn K (.ref C) name=some none) (hv:mA name=some v) (hv':PySem.W.handedIn v=true) (h:Q v { s with toks:=s.toks+1 }) :
  wpAny (model prog w) A (getAttr (.ref x) name expr) Q E s:=by
 obtain⟨od,J,hl⟩:=I.look;exact PySem.W.get_value X J (PySem.W.plainGet_of hg).1 (PySem.W.findObj_own hh ha rfl (by rw[hl,hv])) hv' h
theorem V6(X:K.In s.heap)(I:ObjM s.heap x dx C mA)(hg:PySem.W.plainGet K C name=true)
  (hf:PySem.W.findIn K (.ref C) name=some (some (.ref f))) (ht:PySem.W.isFn K (.ref f)=true) (hv:mA name=none) (h:Q (.ref f,[.ref x]) s) :
  wpAny (model prog w) A (getMethod (.ref x) name pl) Q E s:=by
 obtain⟨od,J,hl⟩:=I.look;exact PySem.W.method_fn X J (PySem.W.plainGet_of hg).1 (PySem.W.plainGet_of hg).2 hf (beq_iff_eq.mp ht) (by show (PySem.W.lookIn name od).map (·.isSome)=some false;rw[hl,hv];rfl) h
theorem W5(X:K.In s.heap)(I:ObjM s.heap x dx C mA)
  (hs:PySem.W.findIn K (.ref C) "__setattr__" = some (some (.builtin "object.__setattr__"))) (hp:PySem.W.plainOver K C=true) (ht:PySem.W.takerIn K C name=some none) (hh:PySem.W.hasDictIn K C=true)
  (hw:PySem.Within mA ns) (hsz:ns.length<=sizeLine)
  (h:∀h',ObjM h' x dx C (λy=>if y=name then some v else mA y)->Heap.SameBut dx s.heap h'->Q () { s with heap:=h',toks:=s.toks+2 }) :
  wpAny (model prog w) A (setAttr (.ref x) name v) Q E s:=by
 obtain⟨od,J,hl⟩:=I.look;refine PySem.W.set_plain X J hs (PySem.W.osa_open (s:={ s with toks:=s.toks+1 }) (r:=none) X J hp ht λb=>?_);obtain⟨cd,hc,hd'⟩:=PySem.W.any_some hh;have hx:s.heap.get? x=some ⟨.ref C,some dx,.plain,#[]⟩:=I.obj;refine AAA (AAB (AAA (AAA (wpAny_loadPart hx (AAA (PySem.W.Looks.here (s:={ s with toks:=s.toks+1 }) (PySem.W.looks_clsIn X hc) ?_))))));rw[hd'];refine AAB (a:=some dx) (AAA (AAB (AAA ?_)));refine wpAny_nsSet1 (s:={ s with toks:=s.toks+1 }) I.ns λh' hn2 hs2=>?_;obtain⟨oD,esD,epD,hoD,hdD,hcD⟩:=hn2.count (PySem.Within.cons name v hw);refine AAA (wpAny_lookBehind hoD (by rw[hdD];exact pastItsLine_dict (AAq hcD (by rw[AAH];omega))) ?_);exact AAB (h _ ⟨(hs2.2 _ (Ne.symm I.ne)).trans I.obj,hn2,I.ne⟩ hs2)
theorem Vd(X:K.In s.heap)(hm:PySem.W.makesIn K C=true)
  (hi:PySem.W.findIn K (.ref C) "__init__" = some (some (.ref f))) (hf:PySem.W.typeIn K (.ref f)=some (.type "function"))
  (h:codeAny (model prog w) (A.under (.builtin "type.__call__" ⟨.ref C::vs,kw⟩)) (.call (.ref f) ⟨.ref (s.heap.objs.size+1)::vs,kw⟩) (PySem.W.InitBack (s.heap.objs.size+1) R)
   { s with heap:=(s.heap.push PySem.W.emptyDict).push (PySem.W.instObj C s.heap.objs.size) }) :
  codeAny (model prog w) A (.call (.ref C) ⟨vs,kw⟩) R s:=by
 obtain⟨hh,g,d,t,os⟩:=s;exact PySem.W.make_core (PySem.W.makes_of X hm) (PySem.W.looks_findIn X hi) (λself=>PySem.W.bind_fn X self hf) (.inl rfl) h
end
noncomputable def Fz(f:Str)(v:V):List (Str×V)->List (Str×V)
 |[]=>[(f,v)]
 |(g,x)::r=>if g=f then (g,v)::r else (g,x)::Fz f v r
theorem Jo(f g:Str)(v:V):∀fs:List (Str×V),(Fz f v fs).lookup g=if g=f then some v else fs.lookup g
 |[]=>by
  show List.lookup g [(f,v)]=_;by_cases h:g=f
  ·have hb:(g==f)=true:=beq_iff_eq.mpr h;simp only[List.lookup,hb,if_pos h]
  ·have hb:(g==f)=false:=AAd.mpr h;simp only[List.lookup,hb,if_neg h]
 |(k,x)::r=>by
  have ih:=Jo f g v r;rw[show Fz f v ((k,x)::r)=(if k=f then (k,v)::r else (k,x)::Fz f v r) from rfl];by_cases hk:k=f
  ·rw[if_pos hk];by_cases h:g=k
   ·have hb:(g==k)=true:=beq_iff_eq.mpr h;simp only[List.lookup,hb,if_pos (h.trans hk)]
   ·have hb:(g==k)=false:=AAd.mpr h;simp only[List.lookup,hb,if_neg (λe:g=f=>h (e.trans hk.symm))]
  ·rw[if_neg hk];by_cases h:g=k
   ·have hb:(g==k)=true:=beq_iff_eq.mpr h;simp only[List.lookup,hb,if_neg (λe:g=f=>hk (h.symm.trans e))]
   ·have hb:(g==k)=false:=AAd.mpr h;simp only[List.lookup,hb];exact ih
theorem JQ(f:Str)(v:V):∀fs:List (Str×V),f∈(Fz f v fs).map (·.1)/\∀g,g∈fs.map (·.1)->g∈(Fz f v fs).map (·.1)
 |[]=>⟨by simp[Fz],λg h=>by simp at h⟩
 |(k,x)::r=>by
  obtain⟨i1,i2⟩:=JQ f v r;rw[show Fz f v ((k,x)::r)=(if k=f then (k,v)::r else (k,x)::Fz f v r) from rfl];by_cases hk:k=f
  ·rw[if_pos hk];subst hk;exact⟨by simp,λg h=>by simpa using h⟩
  ·rw[if_neg hk];refine⟨?_,λg h=>?_⟩
   ·rw[AAW];exact AAQ _ i1
   ·rw[AAW] at h ⊢;rcases AAI.mp h with e|e
    ·exact AAI.mpr (.inl e)
    ·exact AAQ _ (i2 g e)
theorem Jq(f:Str)(v:V):∀fs:List (Str×V),(Fz f v fs).length<=fs.length+1
 |[]=>by simp[Fz]
 |(k,x)::r=>by
  have ih:=Jq f v r;rw[show Fz f v ((k,x)::r)=(if k=f then (k,v)::r else (k,x)::Fz f v r) from rfl];by_cases hk:k=f
  ·rw[if_pos hk,AAH,AAH];omega
  ·rw[if_neg hk,AAH,AAH];omega
theorem RelO.some_of(r:RelO (some v) o):∃u,o=some u/\RelV v u:=by
 cases o with
 |none=>exact(show False from r).elim
 |some u=>exact⟨u,rfl,r⟩
theorem RelO.none_of(r:RelO none o):o=none:=by
 cases o with
 |none=>rfl
 |some u=>exact(show False from r).elim
theorem TH(r:RelV v u):PySem.W.handedIn u=true:=by
 cases v with
 |non=>cases (show u=Value.none from r);rfl
 |bl b=>cases (show u=Value.bool b from r);rfl
 |int i=>obtain⟨t,e⟩:=(show ∃t,u=Value.int i t from r);cases e;rfl
 |str x=>obtain⟨t,e⟩:=(show ∃t,u=Value.str x t from r);cases e;rfl
 |byt b=>obtain⟨t,e⟩:=(show ∃t,u=Value.bytes b t from r);cases e;rfl
 |flt b=>obtain⟨t,e⟩:=(show ∃t,u=Value.float b t from r);cases e;rfl
 |ref a=>cases (show u=Value.ref a from r);rfl
 |ty n=>cases (show u=Value.type n from r);rfl
section
variable{P:Program}{w:World}{H:Hp}{h:Heap}{a C dx:Addr}{fs:List (Str×V)}
theorem J8(hok:HOk P w H h)(e:H a=some (.ins C dx fs)):∃mA,ObjM h a dx C mA/\(∀f,RelO (fs.lookup f) (mA f))/\PySem.Within mA (fs.map (·.1))/\fs.length<=1000/\H dx=some (.own a):=by
 obtain⟨d,z,ne,ob,mA,n,r,q⟩:=(show ObjOk P w H h a (.ins C dx fs) from hok a _ e);exact⟨mA,⟨ob,n,ne⟩,r,q,z,d⟩
end
structure Cls(K:PySem.W.Frag)(C:Addr):Prop where
 pg:PySem.W.plainGet K C Str.empty=true
 hd:PySem.W.hasDictIn K C=true
 po:PySem.W.plainOver K C=true
 sa:PySem.W.findIn K (.ref C) "__setattr__" = some (some (.builtin "object.__setattr__"))
theorem Cls.get{K:PySem.W.Frag}{C:Addr}(c:Cls K C)(f:Str):PySem.W.plainGet K C f=true:=c.pg
def NoAttr(K:PySem.W.Frag)(C:Addr)(f:Str):Prop:=PySem.W.findIn K (.ref C) f=some none
theorem NoAttr.taker{K:PySem.W.Frag}{C:Addr}{f:Str}(n:NoAttr K C f):PySem.W.takerIn K C f=some none:=by
 unfold PySem.W.takerIn;rw[show PySem.W.findIn K (.ref C) f=some none from n];rfl
structure WZ(K:PySem.W.Frag)(C:Addr)(m:Str)(f:Addr):Prop where
 at_:PySem.W.findIn K (.ref C) m=some (some (.ref f))
 fn:PySem.W.isFn K (.ref f)=true
 kp:PySem.W.keepIn K (.ref f)=true
section
variable{X:Cx}{pins:List (Addr×Obj)}{σ:St}{H:Hp}{s:Shared}{a C dx:Addr}{fs:List (Str×V)}{f:Str}{v:V}{A:Around}{E:Value->Shared->Prop}
theorem P6(I:Inv X pins σ H s)(e:H a=some (.ins C dx fs))(c:Cls X.K C)(n:NoAttr X.K C f)(l:fs.lookup f=some v)
  (h:∀u s',Inv X pins σ H s'->RelV v u->Q u s'):wpAny (model X.prog X.w) A (getAttr (.ref a) f b) Q E s:=by
 obtain⟨mA,O,r,_,_,_⟩:=J8 I.hok e;obtain⟨u,hu,ru⟩:=RelO.some_of (v:=v) (o:=mA f) (by rw[←l];exact r f);exact YB I.kIn O (c.get f) c.hd n hu (TH ru) (h u _ (I.tok _) ru)
theorem LH(I:Inv X pins σ H s)(e:H a=some (.ins C dx fs))(c:Cls X.K C)(k:WZ X.K C m g)(l:fs.lookup m=none)
  (h:Q (.ref g,[.ref a]) s):wpAny (model X.prog X.w) A (getMethod (.ref a) m pl) Q E s:=by
 obtain⟨mA,O,r,_,_,_⟩:=J8 I.hok e;have hn:mA m=none:=RelO.none_of (by rw[←l];exact r m);exact V6 I.kIn O (c.get m) k.at_ k.fn hn h
theorem Pd(I:Inv X pins σ H s)(e:H a=some (.ins C dx fs))(c:Cls X.K C)(n:NoAttr X.K C f)(hl:fs.length<1000)(ry:RelV y u)
  (h:∀s',Inv X pins σ (upd H a (.ins C dx (Fz f y fs))) s'->Q () s'):wpAny (model X.prog X.w) A (setAttr (.ref a) f u) Q E s:=by
 obtain⟨mA,O,r,wi,_,ho⟩:=J8 I.hok e;have hz:(fs.map (·.1)).length<=sizeLine:=by rw[AAF,sizeLine_eq];omega
 refine W5 I.kIn O c.sa c.po n.taker c.hd wi hz λh' O' sb=>h _ ?_;have hd:∃o,h'.get? dx=some o:=let ⟨o,_,_,e',_⟩:=O'.ns;⟨o,e'⟩
 refine I.write (x:=a) (e:=dx) (by rw[e];exact True.intro) (.inr ho) (λb q hb z=>(sb.2 b hb).trans z) hd ?_;refine⟨by rw[BG O.ne];exact ho,?_,O.ne,O'.obj,_,O'.ns,λg=>?_,λg hg=>?_⟩
 ·have:=Jq f y fs;omega
 ·show RelO ((Fz f y fs).lookup g) (if g=f then some u else mA g);rw[Jo];by_cases q:g=f
  ·rw[if_pos q,if_pos q];exact ry
  ·rw[if_neg q,if_neg q];exact r g
 ·by_cases q:g=f
  ·rw[q];exact(JQ f y fs).1
  ·refine(JQ f y fs).2 g (wi g λz=>hg ?_);show (if g=f then some u else mA g)=none;rw[if_neg q];exact z
theorem Inv.made(I:Inv X pins σ H s):Inv X pins σ (upd (upd H s.heap.objs.size (.own (s.heap.objs.size+1))) (s.heap.objs.size+1) (.ins C s.heap.objs.size []))
  { s with heap:=(s.heap.push PySem.W.emptyDict).push (PySem.W.instObj C s.heap.objs.size) }:=by
 have e1:(s.heap.push PySem.W.emptyDict).get? s.heap.objs.size=some PySem.W.emptyDict:=AAD s.heap rfl;have e2:((s.heap.push PySem.W.emptyDict).push (PySem.W.instObj C s.heap.objs.size)).get? (s.heap.objs.size+1)=some (PySem.W.instObj C s.heap.objs.size):=by
  have:=AAD (s.heap.push PySem.W.emptyDict) (o:=PySem.W.instObj C s.heap.objs.size) rfl
  rwa [Heap.size_push] at this
 have e3:(s.heap.push PySem.W.emptyDict).Ns s.heap.objs.size (λ_=>none):=⟨PySem.W.emptyDict,#[],_,e1,rfl,(λe he=>absurd he (by simp)),λ_=>rfl⟩;have I1:=I.laid (a:=s.heap.objs.size) (o:=.own (s.heap.objs.size+1)) (h':=s.heap.push PySem.W.emptyDict) (t':=s.toks) (λb u q=>AAC _ q) (AAE _) ⟨_,e1⟩;refine I1.laid (a:=s.heap.objs.size+1) (o:=.ins C s.heap.objs.size []) (t':=s.toks) (λb u q=>AAC _ q) (Nat.le_of_eq (Heap.size_push _ _)) ?_;have ne:s.heap.objs.size≠s.heap.objs.size+1:=AAc (Nat.lt_succ_self _);refine⟨by rw[BG ne,Bt],AAi _,ne,e2,λ_=>none,(Heap.Ns1.of_empty e3).at λo q=>AAC _ q,λ_=>True.intro,λy hy=>absurd rfl hy⟩
theorem YT(hb:attributeBase e f env (eval e env)=eval e env)
  (h:wpAny (model prog w) A (eval e env) (λo s₁=>wpAny (model prog w) A (getAttr o f true) Q E s₁) E s):wpAny (model prog w) A (eval (.Attribute e f pos) env) Q E s:=
 Attribute_any_ h (by rw[arm_eval_Attribute,hb])
end
noncomputable def d9(K:PySem.W.Frag)(ta:TE)(f:Str):TE:=λσ H Q=>ta σ H λx H1=>∃a C dx fs v,x=.ref a/\H1 a=some (.ins C dx fs)/\Cls K C/\NoAttr K C f/\fs.lookup f=some v/\Q v H1
noncomputable def eE(K:PySem.W.Frag)(ta tv:TE)(f:Str):TS:=λD σ H=>tv σ H λy H1=>ta σ H1 λx H2=>∃a C dx fs,x=.ref a/\H2 a=some (.ins C dx fs)/\Cls K C/\NoAttr K C f/\fs.length<1000 /\
 D.nx σ (upd H2 a (.ins C dx (Fz f y fs)))
section
variable{X:Cx}{o e value:Expr}{f:Str}{pos pos':Pos}{ta tv:TE}
theorem Zw(he:PE X e ta)(hb:attributeBase e f X.env (eval e X.env)=eval e X.env):PE X (.Attribute e f pos) (d9 X.K ta f):=by
 intro pins s σ H Q I h;refine YT hb (thn (he pins s σ H _ I h) λu s1 ⟨x,H1,I1,rx,a,C,dx,fs,v,ex,ea,c,n,l,q⟩=>?_);subst ex;obtain rfl:u=Value.ref a:=rx;exact P6 I1 ea c n l λu' s2 I2 ru=>⟨v,H1,I2,ru,q⟩
theorem Zi(ha:PE X o ta)(hv:PE X value tv)(hs:swapsWith value (some (.Attribute o f pos')) pos.line X.env=pure false):PS X (.Assign [.Attribute o f pos'] value pos) (eE X.K ta tv f):=by
 intro pins s σ H D I h;refine plainObj_wpAny_Assign_Attribute (thn (hv pins s σ H _ I h) λu s1 ⟨y,H1,I1,ry,q⟩=>thn (ha pins s1 σ H1 _ I1 q) λov s2 ⟨x,H2,I2,rx,a,C,dx,fs,ex,ea,c,n,l,q2⟩=>?_) hs;subst ex;obtain rfl:ov=Value.ref a:=rx;exact Pd I2 ea c n l ry λs3 I3=>⟨σ,_,I3,q2⟩
end
section
variable{X:Cx}{pins:List (Addr×Obj)}{σ:St}{H:Hp}{s:Shared}{A:Around}{E:Value->Shared->Prop}{Q:Value->Shared->Prop}{c:Value}{b:Bool}
inductive Iw (K:PySem.W.Frag) (H:Hp):V->Value->Prop where
 |non:Iw K H .non (.type "NoneType")
 |bl (x:Bool):Iw K H (.bl x) (.type "bool")
 |int (i:Int):Iw K H (.int i) (.type "int")
 |str (x:Str):Iw K H (.str x) (.type "str")
 |flt (x:UInt64):Iw K H (.flt x) (.type "float")
 |lst {a:Addr} {xs:List V} (e:H a=some (.lst xs)):Iw K H (.ref a) (.type "list")
 |frz {a:Addr} {o:Obj} {xs:List V} (e:H a=some (.frz o (.lst xs))):Iw K H (.ref a) (.type "list")
 |tup {a:Addr} {xs:List V} (e:H a=some (.tup xs)):Iw K H (.ref a) (.type "tuple")
 |dK {a:Addr} {kvs:List (Key×V)} (e:H a=some (.dK kvs)):Iw K H (.ref a) (.type "dict")
 |dT {a:Addr} {kvs:List (List Key×V)} (e:H a=some (.dT kvs)):Iw K H (.ref a) (.type "dict")
 |ins {a C dx:Addr} {fs:List (Str×V)} (e:H a=some (.ins C dx fs)) (cl:Cls K C) (ha:PySem.W.findIn K (.ref C) "__class__" = some (some (.builtin "object.__class__")))
   (hn:PySem.W.specialIn K (.builtin "object.__class__") "__get__" = some (some (.builtin "getset_descriptor.__get__"))) (htk:PySem.W.takesIn K (.builtin "object.__class__")=some true)
   (hm:PySem.W.mroIn K C (.type "object")=some true):Iw K H (.ref a) (.ref C)
theorem TB(I:Inv X pins σ H s)(rx:RelV x u)(ty:Iw X.K H x t)(e:PySem.W.kitOne X.K t c=some b)(h:∀tk,Q (.bool b) { s with toks:=tk }):
  wpAny (model X.prog X.w) A (call (.builtin "isinstance") [u,c]) Q E s:=by
 cases ty with
 |non=>cases (show u=Value.none from rx);exact PySem.W.kia_one PySem.W.kitx_none I.kIn True.intro e (λz=>nomatch z) h
 |bl y=>cases (show u=Value.bool y from rx);exact PySem.W.kia_one PySem.W.kitx_bool I.kIn True.intro e (λz=>nomatch z) h
 |int i=>obtain⟨t,q⟩:=(show ∃t,u=Value.int i t from rx);cases q;exact PySem.W.kia_one PySem.W.kitx_int I.kIn True.intro e (λz=>nomatch z) h
 |str y=>obtain⟨t,q⟩:=(show ∃t,u=Value.str y t from rx);cases q;exact PySem.W.kia_one PySem.W.kitx_str I.kIn True.intro e (λz=>nomatch z) h
 |flt y=>obtain⟨t,q⟩:=(show ∃t,u=Value.float y t from rx);cases q;exact PySem.W.kia_one PySem.W.kitx_float I.kIn True.intro e (λz=>nomatch z) h
 |@lst a xs ea=>
  cases (show u=Value.ref a from rx);obtain⟨_,_,n,_,h1⟩:=(show ObjOk X.prog X.w H s.heap a (.lst xs) from I.hok a _ ea);exact PySem.W.kia_one PySem.W.kitx_list I.kIn ⟨_,h1,rfl⟩ e (λz=>nomatch z) h
 |@frz a ob xs ea=>
  cases (show u=Value.ref a from rx);obtain⟨_,_,_,n,_,h1⟩:=(show ObjOk X.prog X.w H s.heap a (.frz ob (.lst xs)) from I.hok a _ ea);exact PySem.W.kia_one PySem.W.kitx_list I.kIn ⟨_,h1,rfl⟩ e (λz=>nomatch z) h
 |@tup a xs ea=>
  cases (show u=Value.ref a from rx);obtain⟨_,_,_,p⟩:=(show ObjOk X.prog X.w H s.heap a (.tup xs) from I.hok a _ ea);obtain⟨o,h1,h2,_⟩:=p;exact PySem.W.kia_one PySem.W.kitx_tuple I.kIn ⟨o,h1,h2⟩ e (λz=>nomatch z) h
 |@dK a kvs ea=>
  cases (show u=Value.ref a from rx);obtain⟨_,_,vs,_,p⟩:=(show ObjOk X.prog X.w H s.heap a (.dK kvs) from I.hok a _ ea);obtain⟨o,es,ep,h1,h2,_⟩:=p;exact PySem.W.kia_one PySem.W.kitx_dict I.kIn ⟨o,h1,h2.1⟩ e (λz=>nomatch z) h
 |@dT a kvs ea=>
  cases (show u=Value.ref a from rx);obtain⟨_,_,xs,_,o,es,ep,h1,h2,_⟩:=(show ObjOk X.prog X.w H s.heap a (.dT kvs) from I.hok a _ ea);exact PySem.W.kia_one PySem.W.kitx_dict I.kIn ⟨o,h1,h2.1⟩ e (λz=>nomatch z) h
 |@ins a C dx fs ea cl ha hn htk hm=>
  cases (show u=Value.ref a from rx);obtain⟨mA,O,_⟩:=J8 I.hok ea;obtain⟨od,J,_⟩:=O.look;exact PySem.W.kia_one (PySem.W.kitx_own (cl.get _) cl.hd ha hn htk hm) I.kIn J e (λz=>nomatch z) h
end
structure Room(k:Nat)(A:Around):Prop where
 hd:A.handled=none
 dp:A.depth+3 * k+5<recursionLimit
 un:A.units+16 * k+200<cLine
theorem Room.mono(r:Room k A)(h:j<=k):Room j A:=⟨r.hd,by have:=r.dp;omega,by have:=r.un;omega⟩
theorem Room.deeper(r:Room (k+1) A)(env:Env):Room k (A.deeper env):=
 ⟨r.hd,by have:=r.dp;show A.depth+1+3 * k+5<_;omega,by have:=r.un;show A.units+3+16 * k+200<_;omega⟩
theorem Pw{A:Around}{us:List Value}{kw:List (Str×Value)}:(A.under (.builtin "type.__call__" ⟨.ref C::us,kw⟩)).depth=A.depth+1:=by
 first|rfl|simp[Around.under,Code.weight,Code.isCreation,Code.isGuard,Code.isCaller,Code.frames,Code.isFrame,guardIds]
theorem Pv{A:Around}{C:Addr}:(A.under (.builtin "type.__call__" ⟨.ref C::us,kw⟩)).units=A.units+1:=by
 first|rfl|simp[Around.under,Code.cUnits,Code.frames,Code.isFrame]
theorem Room.make(r:Room (k+1) A)(C:Addr)(us:List Value)(kw:List (Str×Value)):Room k (A.under (.builtin "type.__call__" ⟨.ref C::us,kw⟩)):=
 ⟨r.hd,by have:=r.dp;rw[Pw];omega,by have:=r.un;rw[Pv];omega⟩
theorem Room.depth(r:Room k A):A.depth<recursionLimit:=by have:=r.dp;omega
theorem Room.units(r:Room k A):A.units+64<cLine:=by have:=r.un;omega
noncomputable def ZF:TA:=λ_ H Q=>Q [] H
noncomputable def bj(ta:TE)(tr:TA):TA:=λσ H Q=>ta σ H λx H1=>tr σ H1 λxs H2=>Q (x::xs) H2
section
variable{X:Cx}{e:Expr}{es:List Expr}{te:TE}{t:TA}{pos:Pos}
theorem Po:PA X [] ZF:=λ_ _ _ _ H Q I h=>Calls.spliced_nil ⟨[],H,I,.nil,h⟩
theorem NC(ha:PE X e te)(hr:PA X es t)(hs:starEach (e::es) X.env=(false,eval e X.env)::starEach es X.env:=by rfl):PA X (e::es) (bj te t):=by
 intro pos pins s σ H Q I h;rw[hs];show wpAny _ _ (spliced ((false,eval e X.env)::backTo pos (starEach es X.env))) _ _ s;refine Calls.spliced_cons (thn (ha pins s σ H _ I h) λu s1 ⟨x,H1,I1,r1,q1⟩=>?_);exact thn (hr pos pins s1 σ H1 _ I1 q1) λus s2 ⟨xs,H2,I2,r2,q2⟩=>⟨x::xs,H2,I2,.cons r1 r2,q2⟩
noncomputable def dq(t:TA):TE:=λσ H Q=>t σ H λxs H1=>xs.length<=sizeLine/\∀p,H1 p=none->Q (.ref p) (upd H1 p (.tup xs))
noncomputable def dy(t:TA):TE:=λσ H Q=>t σ H λxs H1=>xs.length<=sizeLine/\∀p,H1 p=none->Q (.ref p) (upd H1 p (.lst xs))
theorem Zp(h:PA X es t):PE X (.Tuple es x1 pos) (dq t):=by
 intro pins s σ H Q I hq;refine wpAny_Tuple_spliced (thn (h pos pins s σ H _ I hq) λus s1 ⟨xs,H1,I1,r,z,q⟩=>⟨by rw[←r.length];exact z,?_⟩);have hf:H1 s1.heap.objs.size=none:=I1.hok.fresh (AAE _);refine⟨.ref s1.heap.objs.size,upd H1 s1.heap.objs.size (.tup xs),I1.laid (t':=s1.toks) (λb u e=>AAC _ e) (AAE _) ?_,rfl,q _ hf⟩;exact⟨z,us,r,⟨_,AAD _ rfl,rfl,_,rfl⟩⟩
theorem VN(h:PA X es t):PE X (.List es pos) (dy t):=by
 intro pins s σ H Q I hq;refine wpAny_List_spliced (thn (h pos pins s σ H _ I hq) λus s1 ⟨xs,H1,I1,r,z,q⟩=>⟨by rw[←r.length];exact z,?_⟩);have hf:H1 s1.heap.objs.size=none:=I1.hok.fresh (AAE _);refine⟨.ref s1.heap.objs.size,upd H1 s1.heap.objs.size (.lst xs),I1.laid (t':=s1.toks) (λb u e=>AAC _ e) (AAE _) ?_,rfl,q _ hf⟩;exact⟨z,us,0,r,AAD _ rfl⟩
end
noncomputable abbrev Sp:=List V->Hp->VK->XK->Prop
noncomputable abbrev CXT:=List Env->Hp->Shared->XK->Value->Shared->Prop
structure Env0(P:Program)(w:World)(K:PySem.W.Frag)(mg:Str->Option Value)(base:Heap)(A:Around)(outer:List Env)(s:Shared)(H:Hp):Prop where
 frames:A.frames=some outer
 mod:Mod K mg base
 bs:∀b o,base.get? b=some o->s.heap.get? b=some o/\H b=none
 bsz:base.objs.size<=s.heap.objs.size
 funs:s.heap.FunFrames base outer
 frf:∀b∈frs outer,H b=none
 hok:HOk P w H s.heap
 bare:AllBare s.gens
def CE(outer:List Env)(P:Program)(w:World)(H:Hp)(s:Shared)(Q:VK)(u:Value)(s':Shared):Prop:=
 ∃v H',s'.os=s.os/\AllBare s'.gens/\Un (frs outer) [] H H' s.heap s'.heap/\HOk P w H' s'.heap/\RelV v u/\Q v H'
def CR(CX:CXT)(outer:List Env)(P:Program)(w:World)(H:Hp)(s:Shared)(Q:VK)(E:XK)(r:Result)(s':Shared):Prop:=
 match r with
 | .ok (.ret u)=>CE outer P w H s Q u s'
 | .ok _=>False
 | .error e=>CX outer H s E e s'
structure FnOk(P:Program)(w:World)(K:PySem.W.Frag)(mg:Str->Option Value)(base:Heap)(CX:CXT)(k:Nat)(f:Addr)(fd:FuncData)(ps:List Str)(sp:Sp):Prop where
 len:∀vs H Q E,sp vs H Q E->vs.length=ps.length
 run:∀(A:Around) (outer:List Env) (s:Shared) (H:Hp) (args:Args) (us:List Value) (vs:List V) (Q:VK) (E:XK),Room k A->Env0 P w K mg base A outer s H->BindsTo s fd args (ps.zip us)->Vals vs us->sp vs H Q E->
  codeAny (model P w) A (.call (.ref f) args) (CR CX outer P w H s Q E) s
theorem FnOk.mono{P:Program}{w:World}{K:PySem.W.Frag}{mg:Str->Option Value}{base:Heap}(F:FnOk P w K mg base CX j f fd ps sp)(h:j<=k):
  FnOk P w K mg base CX k f fd ps sp:=⟨F.len,λA outer s H args us vs Q E hr=>F.run A outer s H args us vs Q E (hr.mono h)⟩
theorem FnOk.imp{P:Program}{w:World}{K:PySem.W.Frag}{mg:Str->Option Value}{base:Heap}(F:FnOk P w K mg base CX k f fd ps sp)
  (h:∀vs H Q E,sp' vs H Q E->sp vs H Q E):FnOk P w K mg base CX k f fd ps sp':=
 ⟨λvs H Q E q=>F.len vs H Q E (h _ _ _ _ q),λA outer s H args us vs Q E hr he hb hv hs=>F.run A outer s H args us vs Q E hr he hb hv (h _ _ _ _ hs)⟩
theorem Env0.make{P:Program}{w:World}{K:PySem.W.Frag}{mg:Str->Option Value}(e:Env0 P w K mg base A outer s H)(C:Addr)(us:List Value)(kw:List (Str×Value)):
  Env0 P w K mg base (A.under (.builtin "type.__call__" ⟨.ref C::us,kw⟩)) outer s H:=⟨by first|exact e.frames|(simpa[Around.under,Code.envs,Code.isFrame,pushEnvs] using e.frames),e.mod,e.bs,e.bsz,e.funs,e.frf,e.hok,e.bare⟩
section
variable{X:Cx}{pins:List (Addr×Obj)}{σ:St}{H:Hp}{s s':Shared}
theorem Inv.env0(I:Inv X pins σ H s):Env0 X.prog X.w X.K X.mg X.base X.A X.stack s H:=
 ⟨I.ok.frames,I.ok.mod,I.bs,AAq I.ok.bsz I.sz,I.stack,I.stkFree,I.hok,I.bare⟩
theorem Inv.after(I:Inv X pins σ H s)(h:CE X.stack X.prog X.w H s Q u s'):EP X pins σ Q u s':=by
 obtain⟨v,H',os,bare,un,hok,r,q⟩:=h;obtain⟨hh,g,d,t,os'⟩:=s';obtain rfl:os'=s.os:=os;exact⟨v,H',I.call (h':=hh) (g':=g) (d':=d) (t':=t) (ch:=[]) un hok bare (λb z=>absurd z (by simp)),r,q⟩
end
noncomputable def bm(sp:Sp)(dvs:List V)(E:XK)(t:TA):TE:=λσ H Q=>t σ H λvs H1=>sp (vs++dvs) H1 Q E
noncomputable def Ye(C:Addr)(m:Str)(sp:Sp)(dvs:List V)(E:XK)(ta:TE)(t:TA):TE:=λσ H Q=>ta σ H λx H1=>∃a dx fs,x=.ref a/\H1 a=some (.ins C dx fs)/\fs.lookup m=none /\
 t σ H1 λvs H2=>sp (x::(vs++dvs)) H2 Q E
noncomputable def bb(C:Addr)(sp:Sp)(dvs:List V)(E:XK)(t:TA):TE:=λσ H Q=>t σ H λvs H1=>∀x dx,H1 x=none->H1 dx=none->dx≠x->
 sp (.ref x::(vs++dvs)) (upd (upd H1 dx (.own x)) x (.ins C dx [])) (λv H2=>v=.non/\Q (.ref x) H2) E
def Binds(K:PySem.W.Frag)(fd:FuncData)(ps:List Str)(ds:List Value):Prop:=
 ∀(s:Shared) (us:List Value),K.In s.heap->(us++ds).length=ps.length->BindsTo s fd ⟨us,[]⟩ (ps.zip (us++ds))
theorem Binds.all{K:PySem.W.Frag}(h:∀us:List Value,us.length=ps.length->bindArgs fd ⟨us,[]⟩=pure (ps.zip us)):Binds K fd ps []:=λs us _ hl=>by
 rw[AAY] at hl ⊢;exact .of_eq (h us hl)
def IB(CX:CXT)(X:Cx)(E:XK):Prop:=∀(pins:List (Addr×Obj)) (σ:St) (H:Hp) (s:Shared) (e:Value) (s':Shared),Inv X pins σ H s->CX X.stack H s E e s'->X.xe e s'
section
variable{X:Cx}{CX:CXT}{k:Nat}{f C:Addr}{fd:FuncData}{ps:List Str}{sp:Sp}{dvs:List V}{ds:List Value}{E:XK}{x m:Str}{p pos apos:Pos}{e o:Expr}{es:List Expr}{ta:TE}{t:TA}
theorem Pe(F:FnOk X.prog X.w X.K X.mg X.base CX k f fd ps sp)(hr:Room k X.A)(hb:Binds X.K fd ps ds)(hd:Vals dvs ds)(hx:IB CX X E)
  (I:Inv X pins σ H s) (r:Vals vs us) (h:sp (vs++dvs) H Q E):wpAny (model X.prog X.w) X.A (call (.ref f) us) (EP X pins σ Q) X.xe s:=by
 have r2:Vals (vs++dvs) (us++ds):=r.append hd;have hl:(us++ds).length=ps.length:=by rw[←r2.length];exact F.len _ _ _ _ h
 refine wpAny_call (codeAny_mono (F.run X.A X.stack s H ⟨us,[]⟩ (us++ds) (vs++dvs) Q E hr I.env0 (hb s us I.kIn hl) r2 h) λr s' hq=>?_);cases r with
 |error e=>exact hx pins σ H s e s' I hq
 |ok fl=>
  cases fl with
  |ret u=>exact I.after hq
  |next=>exact False.elim hq
  |brk=>exact False.elim hq
  |cont=>exact False.elim hq
theorem Xg(F:FnOk X.prog X.w X.K X.mg X.base CX k f fd ps sp)(hr:Room k X.A)(hg:Gl X x)(hm:X.mg x=some (.ref f))(hk:PySem.W.keepIn X.K (.ref f)=true)(hb:Binds X.K fd ps ds)(hd:Vals dvs ds)(hx:IB CX X E)
  (ha:PA X (e::es) t) (hdb:(x==("__debug__" : Str))=false:=by decide) (he:starEach (e::es) X.env=(false,eval e X.env)::starEach es X.env:=by rfl) (hpl:(backTo pos (starEach es X.env)).any (·.1)=false:=by rfl) :
  PE X (.Call (.Name x p) (e::es) [] pos) (bm sp dvs E t):=by
 intro pins s σ H Q I h;refine wpAny_Call_Name_kw (NL I hg hm ?_ hdb);refine PySem.W.callWith_K (h₀:=X.base) I.ok.mod.kin hk (thn (ha pos pins s σ H _ I h) λus s1 ⟨vs,H1,I1,r,q⟩=>⟨I1.kIn,?_⟩) he hpl;exact Pe F hr hb hd hx I1 r q
theorem Xd(he:PE X o ta)(c:Cls X.K C)(hm:WZ X.K C m f)(F:FnOk X.prog X.w X.K X.mg X.base CX k f fd ps sp)(hr:Room k X.A)(hb:Binds X.K fd ps ds)(hd:Vals dvs ds)(hx:IB CX X E)(ha:PA X (e::es) t)
  (hst:starEach (e::es) X.env=(false,eval e X.env)::starEach es X.env:=by rfl) (hpl:(backTo pos (starEach es X.env)).any (·.1)=false:=by rfl)
  (ht:eval (.Call (.Attribute o m apos) (e::es) [] pos) X.env=(do
   let ov ←eval o X.env
   standAt apos.atName
   let (f,first) ←holding [ov] (getMethod ov m pl)
   callWith pos f first (backTo pos (starEach (e::es) X.env)) (backToKw pos (keywordEach [] X.env))):=by rfl) :
  PE X (.Call (.Attribute o m apos) (e::es) [] pos) (Ye C m sp dvs E ta t):=by
 intro pins s σ H Q I h;refine PySem.W.methodCall_KW (pl:=pl) (thn (he pins s σ H _ I h) λu s1 ⟨x,H1,I1,rx,a,dx,fs,ex,ea,l,q⟩=>?_) ht;subst ex;obtain rfl:u=Value.ref a:=rx;refine LH I1 ea c hm l ?_;refine PySem.W.callWith_K (first:=[.ref a]) (h₀:=X.base) I.ok.mod.kin hm.kp (thn (ha pos pins s1 σ H1 _ I1 q) λus s2 ⟨vs,H2,I2,r,q2⟩=>⟨I2.kIn,?_⟩) hst hpl;exact Pe (us:=.ref a::us) (vs:=.ref a::vs) F hr hb hd hx I2 (.cons rfl r) q2
theorem VL(he:PE X o ta)(c:Cls X.K C)(hm:WZ X.K C m f)(F:FnOk X.prog X.w X.K X.mg X.base CX k f fd ps sp)(hr:Room k X.A)(hb:Binds X.K fd ps ds)(hd:Vals dvs ds)(hx:IB CX X E)
  (ht:eval (.Call (.Attribute o m apos) [] [] pos) X.env=(do
   let ov ←eval o X.env
   standAt apos.atName
   let (f,first) ←holding [ov] (getMethod ov m pl)
   callWith pos f first (backTo pos (starEach [] X.env)) (backToKw pos (keywordEach [] X.env))):=by rfl) :
  PE X (.Call (.Attribute o m apos) [] [] pos) (Ye C m sp dvs E ta ZF):=by
 intro pins s σ H Q I h;refine PySem.W.methodCall_KW (pl:=pl) (thn (he pins s σ H _ I h) λu s1 ⟨x,H1,I1,rx,a,dx,fs,ex,ea,l,q⟩=>?_) ht;subst ex;obtain rfl:u=Value.ref a:=rx;refine LH I1 ea c hm l ?_;exact PySem.W.callWith_K0 (first:=[.ref a]) I1.kIn hm.kp (Pe (us:=[.ref a]) (vs:=[.ref a]) F hr hb hd hx I1 (.cons rfl .nil) q)
structure Mk(K:PySem.W.Frag)(C f:Addr):Prop where
 makes:PySem.W.makesIn K C=true
 init:PySem.W.findIn K (.ref C) "__init__" = some (some (.ref f))
 fn:PySem.W.isFn K (.ref f)=true
 kp:PySem.W.keepIn K (.ref C)=true
theorem Ui(M:Mk X.K C f)(F:FnOk X.prog X.w X.K X.mg X.base CX k f fd ps sp)(hr:Room (k+1) X.A)(hb:Binds X.K fd ps ds)(hd:Vals dvs ds)
  (hx:IB CX X E) (I:Inv X pins σ H s) (r:Vals vs us)
  (h:∀x dx,H x=none->H dx=none->dx≠x->sp (.ref x::(vs++dvs)) (upd (upd H dx (.own x)) x (.ins C dx [])) (λv H2=>v=.non/\Q (.ref x) H2) E) :
  wpAny (model X.prog X.w) X.A (call (.ref C) us) (EP X pins σ Q) X.xe s:=by
 have hq:=h (s.heap.objs.size+1) s.heap.objs.size (I.hok.fresh (Nat.le_succ _)) (I.hok.fresh (AAE _)) (AAc (Nat.lt_succ_self _));have I2:=Inv.made (C:=C) I;have r2:Vals (V.ref (s.heap.objs.size+1)::(vs++dvs)) (Value.ref (s.heap.objs.size+1)::(us++ds)):=.cons rfl (r.append hd);have hl:(Value.ref (s.heap.objs.size+1)::us++ds).length=ps.length:=by
  have e:=r2.length;rw[F.len _ _ _ _ hq] at e;exact e.symm
 refine wpAny_call (Vd (f:=f) I.kIn M.makes M.init (beq_iff_eq.mp M.fn) (codeAny_mono (F.run _ X.stack _ _ ⟨Value.ref (s.heap.objs.size+1)::us,[]⟩ (Value.ref (s.heap.objs.size+1)::(us++ds)) _ _ E (hr.make C us [])
  (I2.env0.make C us []) (hb _ (Value.ref (s.heap.objs.size+1)::us) I2.kIn hl) r2 hq) λr s' hq'=>?_))
 cases r with
 |error e=>exact hx pins σ _ _ e s' I2 hq'
 |ok fl=>
  cases fl with
  |ret u=>
   obtain⟨v,H',I3,rv,ev,q3⟩:=I2.after hq';subst ev;exact⟨rv,⟨V.ref (s.heap.objs.size+1),H',I3,rfl,q3⟩⟩
  |next=>exact False.elim hq'
  |brk=>exact False.elim hq'
  |cont=>exact False.elim hq'
theorem VM(M:Mk X.K C f)(F:FnOk X.prog X.w X.K X.mg X.base CX k f fd ps sp)(hr:Room (k+1) X.A)(hg:Gl X x)(hm:X.mg x=some (.ref C))(hb:Binds X.K fd ps ds)(hd:Vals dvs ds)(hx:IB CX X E)
  (hdb:(x==("__debug__" : Str))=false:=by decide):PE X (.Call (.Name x p) [] [] pos) (bb C sp dvs E ZF):=by
 intro pins s σ H Q I h;refine wpAny_Call_Name_kw (NL I hg hm ?_ hdb);exact PySem.W.callWith_K0 I.kIn M.kp (Ui (us:=[]) M F hr hb hd hx I .nil h)
end
structure Ac(N P:List Str)(sc:Scope):Prop where
 kind:sc.kind=.function
 co:sc.isCoroutine=false
 gen:sc.isGenerator=false
 nd:N.Nodup
 pre:N.take P.length=P
 par:∀x∈P,sc.names.lookup x=some .local∨sc.names.lookup x=some .cell
 nofree:∀y∈sc.names,y.2≠.free
theorem Ma{kindOf:Str->Option NameKind}:∀{binds:List (Str×Value)} {m:Str->Option Value},(∀v,(x,v)∉binds)->bindL kindOf binds m x=m x
 |[],_,_=>rfl
 |(n,v)::r,m,h=>by
  unfold bindL;rw[Ma λw hw=>h w (AAQ _ hw)];split
  ·have:x≠n:=by rintro rfl;exact h v AAP
   simp[this]
  ·rfl
theorem Mc{kindOf:Str->Option NameKind}:∀{binds:List (Str×Value)} {m:Str->Option Value},(∀v,(x,v)∉binds)->bindC kindOf binds m x=m x
 |[],_,_=>rfl
 |(n,v)::r,m,h=>by
  unfold bindC;rw[Mc λw hw=>h w (AAQ _ hw)];split
  ·rfl
  ·have:x≠n:=by rintro rfl;exact h v AAP
   simp[this]
theorem Mb{kindOf:Str->Option NameKind}:∀{P:List Str} {vs:List Value} {i:Nat} {m:Str->Option Value},P.Nodup->P[i]?=some x->vs[i]?=some v->kindOf x=some .local->
  bindL kindOf (P.zip vs) m x=some v
 |[],_,_,_,_,h,_,_=>by simp at h
 |_::_,[],_,_,_,_,h,_=>by simp at h
 |p::P,w::vs,0,m,nd,h1,h2,hk=>by
  simp at h1 h2;subst h1;subst h2;show bindL kindOf ((p,w)::P.zip vs) m p=_;unfold bindL;rw[Ma λv hv=>(List.nodup_cons.mp nd).1 (List.of_mem_zip hv).1,if_pos hk];simp
 |p::P,w::vs,i+1,m,nd,h1,h2,hk=>by
  show bindL kindOf ((p,w)::P.zip vs) m x=_;unfold bindL;exact Mb (i:=i) (List.nodup_cons.mp nd).2 (by simpa using h1) (by simpa using h2) hk
theorem Md{kindOf:Str->Option NameKind}:∀{P:List Str} {vs:List Value} {i:Nat} {m:Str->Option Value},P.Nodup->P[i]?=some x->vs[i]?=some v->kindOf x≠some .local->
  bindC kindOf (P.zip vs) m x=some v
 |[],_,_,_,_,h,_,_=>by simp at h
 |_::_,[],_,_,_,_,h,_=>by simp at h
 |p::P,w::vs,0,m,nd,h1,h2,hk=>by
  simp at h1 h2;subst h1;subst h2;show bindC kindOf ((p,w)::P.zip vs) m p=_;unfold bindC;rw[Mc λv hv=>(List.nodup_cons.mp nd).1 (List.of_mem_zip hv).1,if_neg hk];simp
 |p::P,w::vs,i+1,m,nd,h1,h2,hk=>by
  show bindC kindOf ((p,w)::P.zip vs) m x=_;unfold bindC;exact Md (i:=i) (List.nodup_cons.mp nd).2 (by simpa using h1) (by simpa using h2) hk
noncomputable def start(N:List Str)(vs:List V):St:=vs.map some++List.replicate (N.length-vs.length) none
noncomputable def Ip(CX:CXT)(P:Program)(w:World)(K:PySem.W.Frag)(mg:Str->Option Value)(base:Heap)(N:List Str)(qual:Str)(scope:Scope)(f:Addr)(cd:Value)(A:Around)(outer:List Env)(s:Shared)(H:Hp)(E:XK):Cx where
 prog:=P
 w:=w
 K:=K
 mg:=mg
 base:=base
 A:=A.deeper (envOfC qual scope s.heap.objs.size f cd)
 N:=N
 s₀:=s
 H₀:=H
 env:=envOfC qual scope s.heap.objs.size f cd
 outer:=outer
 stack:=envOfC qual scope s.heap.objs.size f cd::outer
 ex:=[]
 calm:=true
 fn:=λ_=>true
 pn:=[]
 xe:=λe s'=>wpAny (model P w) (A.deeper (envOfC qual scope s.heap.objs.size f cd)) (leaving (envOfC qual scope s.heap.objs.size f cd) e) (λ_ s''=>CX outer H s E e s'') (λe' s''=>CX outer H s E e' s'') s'
theorem Ou{sc:Scope}(h:sc.names.lookup x=some .cell):∃c,(cellsFrom n sc.names []).lookup x=some c:=by
 have q:=PySem.W.cellsFrom_some sc.names n [] (.inl h);exact Option.isSome_iff_exists.mp q
theorem TC{CX:CXT}{P:Program}{w:World}{K:PySem.W.Frag}{mg:Str->Option Value}{base:Heap}{N ps:List Str}{qual:Str}{scope:Scope}
  (S:Ac N ps scope) (hd:A.handled=none) (e0:Env0 P w K mg base A outer s H) (hl:vs.length=ps.length) (r:Vals vs us)
  (x:InCallC s s.heap.objs.size (bindL (envOfC qual scope s.heap.objs.size f cd).kindOf (ps.zip us) λ_=>none) (cellsFrom (s.heap.objs.size+1) scope.names []) (bindC (envOfC qual scope s.heap.objs.size f cd).kindOf (ps.zip us) λ_=>none) s1) :
  Inv (Ip CX P w K mg base N qual scope f cd A outer s H E) [] (start N vs) H s1:=by
 have hpl:ps.length<=N.length:=by have:=congrArg List.length S.pre;rw[List.length_take] at this;omega
 obtain⟨h1,tk,rfl,hk⟩:=x.done;have noA:∀b:Addr,b∉(Ip CX P w K mg base N qual scope f cd A outer s H E).ex:=λb z=>absurd (show b∈([]:List Addr) from z) (by simp);refine⟨⟨e0.mod,S.kind,rfl,rfl,AAE _,λy z c h1 h2=>?_,λy hy=>?_,λy c _ h=>?_,λ_=>hd,Around.frames_deeper e0.frames,.inr ⟨rfl,rfl⟩,λb z=>absurd z (noA b),e0.bs,e0.bsz,λb _ _=>noA b,λb z=>absurd z (noA b),e0.funs,e0.frf⟩,
  rfl,e0.bare,Un.kept hk,⟨_,x.toInCall.ns,λi y v h1 h2 h3=>?_⟩,λy c h=>⟨_,x.cell y c h⟩,e0.hok.fresh (AAE _),λy c h=>?_,λp hp=>absurd (show p∈([]:List (Addr×Obj)) from hp) (by simp),e0.hok.kept hk,?_⟩
 ·exact name_of_addr x.apart (PySem.mem_of_lookup h1) (PySem.mem_of_lookup h2)
 ·have hy:scope.names.lookup y=some .cell∨scope.names.lookup y=some .free:=hy;rcases hy with hy|hy
  ·exact Ou hy
  ·exact absurd rfl (S.nofree _ (PySem.mem_of_lookup hy))
 ·exact Nat.le_of_lt (x.above y c (PySem.mem_of_lookup h))
 ·have hi:i<vs.length:=by
   unfold start at h2;by_cases hi:i<vs.length
   ·exact hi
   ·rw[AAR (by simpa using hi)] at h2;rw[List.getElem?_replicate] at h2;split at h2<;>cases h2
  have ha:vs[i]?=some v:=by
   unfold start at h2;rw[AAS (by simpa using hi),AAV] at h2;cases e:vs[i]? with
   |none=>rw[e] at h2;cases h2
   |some a=>rw[e] at h2;cases h2;rfl
  obtain⟨u,hu,rv⟩:=r.get ha;have hp:ps[i]?=some y:=by
   rw[←S.pre,List.getElem?_take_of_lt (by omega)];exact h1
  have ndP:ps.Nodup:=by rw[←S.pre];exact S.nd.sublist (List.take_sublist _ _)
  refine⟨u,rv,?_⟩;rcases S.par y (AAU hp) with k|k
  ·exact .inl ⟨k,Mb ndP hp hu k⟩
  ·obtain⟨c,e⟩:=Ou (n:=s.heap.objs.size+1) k;refine .inr ⟨.inl k,c,e,?_⟩;have q:=x.cell y c e;rw[Md ndP hp hu (by show scope.names.lookup y≠_;rw[k];decide)] at q;exact q
 ·exact e0.hok.fresh (Nat.le_of_lt (x.above y c (PySem.mem_of_lookup h)))
 ·unfold start;show _=N.length;rw[AAG,AAF,AAl];omega
theorem dM{CX:CXT}{P:Program}{w:World}{K:PySem.W.Frag}{mg:Str->Option Value}{base:Heap}{k:Nat}{f:Addr}{name qual:Str}{params:Arguments}{body:List Stmt}{scope:Scope}{dV kV doc pm cdv ct oc:Value}{an od:Option Addr}
  {osl:Array (Option Value)} {N ps:List Str} {sp:Sp} (lk:K.lookup f=some ⟨oc,od,.func (PySem.W.fnOf name qual params body scope dV kV doc pm an cdv ct),osl⟩) (hcd:PySem.W.codeIn K cdv qual=true) (S:Ac N ps scope)
  (len:∀vs H Q E,sp vs H Q E->vs.length=ps.length)
  (hbody:∀(A:Around) (outer:List Env) (s:Shared) (H:Hp) (vs:List V) (Q:VK) (E:XK),Room k (A.deeper (envOfC qual scope s.heap.objs.size f cdv))->sp vs H Q E->
   ∃t,PSs (Ip CX P w K mg base N qual scope f cdv A outer s H E) body t/\t { nx:=λ_ H'=>Q .non H',rt:=Q } (start N vs) H) :
  FnOk P w K mg base CX (k+1) f (PySem.W.fnOf name qual params body scope dV kV doc pm an cdv ct) ps sp:=by
 refine⟨len,λA outer s H args us vs Q E hr e0 hb r hsp=>?_⟩;have hl:=len _ _ _ _ hsp;have KX:K.In s.heap:=e0.mod.kin.keeps λb o e=>(e0.bs b o e).1;have lim:s.heap.NoLimit:=e0.mod.nolimit.keeps λb o e=>(e0.bs b o e).1;have hkind:∀y∈ps.zip us,scope.names.lookup y.1=some .local∨(scope.names.lookup y.1=some .cell/\((cellsFrom (s.heap.objs.size+1) scope.names []).lookup y.1).isSome=true):=λ⟨n,v⟩ hy=>by
  rcases S.par n (List.of_mem_zip hy).1 with q|q
  ·exact .inl q
  ·exact .inr ⟨q,PySem.W.cellsFrom_some _ _ _ (.inl q)⟩
 refine codeAny_call_function hr.depth (KX _ _ lk) rfl S.co S.gen rfl (PySem.W.codeRec_of KX hcd) (hb _ _ _ _ ?_);refine wpAny_newFunctionEnv_cells S.kind hkind λenv he s1 x=>?_;subst he;refine⟨lim.keeps x.toInCall.keep,codeAny_func ?_⟩;obtain⟨t,ht,hq⟩:=hbody A outer s H vs Q E (hr.deeper _) hsp;have I:Inv (Ip CX P w K mg base N qual scope f cdv A outer s H E) [] (start N vs) H s1:=TC S hr.hd e0 hl r x;refine AAh (ht [] s1 (start N vs) H _ I hq) (λfl s' hs=>?_) λe s' hs=>hs;have fin:∀{σ':St} {H':Hp} {v:V} {u:Value},Inv (Ip CX P w K mg base N qual scope f cdv A outer s H E) [] σ' H' s'->RelV v u->Q v H'->CE outer P w H s Q u s':=
  λ{σ' H' v u} J rv q=>⟨v,H',J.os,J.bare,J.base,J.hok,rv,q⟩
 cases fl with
 |ret u=>
  obtain⟨v,σ',H',J,rv,q⟩:=hs;exact fin J rv q
 |next=>
  obtain⟨σ',H',J,q⟩:=hs;exact fin (v:=V.non) (u:=Value.none) J rfl q
 |brk=>
  obtain⟨_,_,_,q⟩:=hs;exact False.elim q
 |cont=>
  obtain⟨_,_,_,q⟩:=hs;exact False.elim q
section
variable{X:Cx}{x:Str}{p pos:Pos}{e:Expr}{es:List Expr}{t:TA}{id T:String}{r:List V->Hp->VK->Prop}
noncomputable def tCB(r:List V->Hp->VK->Prop)(t:TA):TE:=λσ H Q=>t σ H λvs H1=>r vs H1 Q
theorem OO(hc:Cd X (.builtin id) r)(hg:Gl X x)(hm:X.mg x=none)(hv:bootBuiltins x=some (.builtin id))(ha:PA X (e::es) t)(hn:x ≠ "__name__" := by decide)(hdb:(x==("__debug__" : Str))=false:=by decide)
  (he:starEach (e::es) X.env=(false,eval e X.env)::starEach es X.env:=by rfl) (hpl:(backTo pos (starEach es X.env)).any (·.1)=false:=by rfl):PE X (.Call (.Name x p) (e::es) [] pos) (tCB r t):=by
 intro pins s σ H Q I h;refine wpAny_Call_Name_kw (F4 I hg hm hv ?_ hn hdb);exact PyProof.Rows.callWith_builtin1 (thn (ha pos pins s σ H _ I h) λus s1 ⟨vs,H1,I1,r1,q1⟩=>hc pins s1 σ H1 vs us Q I1 r1 q1) he hpl
theorem L9(hc:Cd X (.type T) r)(hg:Gl X x)(hm:X.mg x=none)(hv:bootBuiltins x=some (.type T))(ha:PA X (e::es) t)(hn:x ≠ "__name__" := by decide)(hdb:(x==("__debug__" : Str))=false:=by decide)
  (he:starEach (e::es) X.env=(false,eval e X.env)::starEach es X.env:=by rfl) (hpl:(backTo pos (starEach es X.env)).any (·.1)=false:=by rfl):PE X (.Call (.Name x p) (e::es) [] pos) (tCB r t):=by
 intro pins s σ H Q I h;refine wpAny_Call_Name_kw (F4 I hg hm hv ?_ hn hdb);exact PyProof.Rows.callWith_type1 (thn (ha pos pins s σ H _ I h) λus s1 ⟨vs,H1,I1,r1,q1⟩=>hc pins s1 σ H1 vs us Q I1 r1 q1) he hpl
end
end L2
namespace HT
open PySem PyProof.Rows
section
open PySem.SeqAt
open PySem.AutoSeq1 (wpAny_loadPart')
open PySem.MeetsSeq PySem.MeetsSeq2 PySem.MeetsSeq3
end
section
variable{prog:Program}{w:World}{A:Around}{E:Value->Shared->Prop}{s:Shared}
theorem YN(ht:IsTup s.heap t vs.toArray)(hb:IsTup s.heap b ws.toArray)(hv:vs≠[])
  (h1:ws=[]->Q (.ref t) s) (h2:ws≠[]->Q (.ref s.heap.objs.size) { s with heap:=s.heap.push { cls:=.type "tuple",data:=.seq (vs++ws).toArray } })
  (hsz:vs.length+ws.length<=sizeLine):wpAny (model prog w) A (binaryOp .Add (.ref t) (.ref b)) Q E s:=by
 obtain⟨⟨cls,dd,data,sl⟩,ho,hc,n,hd⟩:=id ht;obtain⟨⟨cls2,dd2,data2,sl2⟩,ho2,hc2,n2,hd2⟩:=id hb;simp only at hc hd hc2 hd2;subst hc hd hc2 hd2;have e:vs.toArray++ws.toArray=(vs++ws).toArray:=by simp
 by_cases hw:ws=[]
 ·exact concat_meets ⟨_,ho,rfl⟩ ⟨_,ho2,rfl⟩ noFill_tuple_add seq_tuple_add PySem.F.slot_tuple_add PySem.F.entry_tuple_add (PySem.F.args_tuple_add_2 _ _)
   (tuple_addW1 t b vs.toArray ws.toArray n n2 dd dd2 sl sl2 (by simpa using hv) (by simp[hw])) ⟨ho,ho2,h1 hw⟩
 ·refine concat_meets ⟨_,ho,rfl⟩ ⟨_,ho2,rfl⟩ noFill_tuple_add seq_tuple_add PySem.F.slot_tuple_add PySem.F.entry_tuple_add (PySem.F.args_tuple_add_2 _ _)
   (tuple_addW2 t b vs.toArray ws.toArray n n2 dd dd2 sl sl2 (by simpa using hv) (by simpa using hw) (by rw[List.size_toArray,List.size_toArray];exact hsz)) ⟨ho,ho2,?_⟩
  rw[e];exact h2 hw
noncomputable def sIx(n d:Nat):Option Int->Nat
 |none=>d
 |some v=>if v<0 then (v+(n:Int)).toNat else min v.toNat n
theorem M4(n d k:Nat):sIx n d (some (k:Int))=min k n:=by
 show (if (k:Int)<0 then ((k:Int)+(n:Int)).toNat else min (k:Int).toNat n)=min k n;rw[if_neg (by omega),Int.toNat_natCast]
theorem ZP(n d:Nat)(hd:d<=n)(o:Option Int):sIx n d o<=n:=by
 cases o with
 |none=>exact hd
 |some v=>
  show (if v<0 then (v+(n:Int)).toNat else min v.toNat n)<=n;by_cases hv:v<0
  ·rw[if_pos hv];omega
  ·rw[if_neg hv];exact Nat.min_le_right _ _
theorem Rv(v:Int)(n d:Nat):(if v<0 then max (v+(n:Int)) 0 else min v (n:Int))=((sIx n d (some v):Nat):Int):=by
 show (if v<0 then max (v+(n:Int)) 0 else min v (n:Int))=(((if v<0 then (v+(n:Int)).toNat else min v.toNat n):Nat):Int);by_cases hv:v<0
 ·simp only[if_pos hv];omega
 ·simp only[if_neg hv];omega
theorem QK(lo hi:Option Int)(n:Nat):Builtin.Slice.sliceAdjust lo hi 1 (n:Int)=(((sIx n 0 lo:Nat):Int),((sIx n n hi:Nat):Int)):=by
 have h1:¬((1:Int)<0):=by omega
 unfold Builtin.Slice.sliceAdjust;simp only[h1,if_false];refine Prod.ext ?_ ?_
 ·cases lo with
  |none=>rfl
  |some v=>exact Rv v n 0
 ·cases hi with
  |none=>rfl
  |some v=>exact Rv v n n
theorem Pm(i j:Nat):Builtin.Slice.slicePlaces (i:Int) (j:Int) 1=j-i:=by
 unfold Builtin.Slice.slicePlaces;have h1:(1:Int) > 0:=by omega
 simp only[h1,if_true,Int.ediv_one];split<;>omega
theorem Kd(p:IsPart v o)(h:Q o s):wpAny (model prog w) A (Builtin.Slice.slicePartIndex v) Q E s:=by
 cases p with
 |none=>exact slicePart_none h
 |int i t=>exact slicePart_int h
theorem FW{sl:Addr}{vl vu:Value}{lo hi:Option Int}{n:Nat}{Q:Int×Int×Nat->Shared->Prop}(hs:s.heap.IsSliceOf sl vl vu .none)(pl:IsPart vl lo)(pu:IsPart vu hi)
  (h:Q (((sIx n 0 lo:Nat):Int),1,sIx n n hi-sIx n 0 lo) s):wpAny (model prog w) A (Builtin.Slice.sliceApplied (.ref sl) (pure (n:Int))) Q E s:=by
 obtain⟨os,hos,hcs,hds⟩:=id hs;unfold Builtin.Slice.sliceApplied Builtin.Slice.sliceFields;refine AAA (AAA (AAs hos hds (x:=vl) rfl (AAA (AAs hos hds (x:=vu) rfl (AAA (AAs hos hds (x:=.none) rfl (AAB ?_)))))));refine AAA (slicePart_none ?_);show wpAny _ _ (if ((1:Int)==0)=true then _ else _) _ _ s;rw[if_neg (by decide)];refine AAA (Kd pl (AAA (Kd pu (AAA (AAB ?_)))));show wpAny _ _ (match Builtin.Slice.sliceAdjust lo hi 1 (n:Int) with|(lo,hi)=>pure (lo,(1:Int),Builtin.Slice.slicePlaces lo hi 1)) _ _ s;rw[QK lo hi n];show wpAny _ _ (pure (((sIx n 0 lo:Nat):Int),(1:Int),Builtin.Slice.slicePlaces ((sIx n 0 lo:Nat):Int) ((sIx n n hi:Nat):Int) 1)) _ _ s;rw[Pm];exact AAB h
theorem VG(xs:Array Value)(i k:Nat):((List.range k).filterMap λ(m:Nat)=>xs[((i:Int)+(m:Int) * 1).toNat]?).toArray=((xs.toList.drop i).take k).toArray:=by
 have e:(λ(m:Nat)=>xs[((i:Int)+(m:Int) * 1).toNat]?)=λm=>xs[i+m]?:=by
  funext m
  have:((i:Int)+(m:Int) * 1).toNat=i+m:=by omega
  rw[this]
 rw[e];have:=pick_run xs i k;rw[List.filterMap_map] at this;have e2:((λx=>xs[x]?) ∘ λx=>i+x)=λm=>xs[i+m]?:=rfl;rw[e2] at this;rw[this]
theorem Ii{t sl:Addr}{items:Array Value}{vl vu:Value}{lo hi:Option Int}{Q:Value->Shared->Prop}(ht:IsTup s.heap t items)(hs:s.heap.IsSliceOf sl vl vu .none)(pl:IsPart vl lo)(pu:IsPart vu hi)
  (hw:¬(sIx items.size 0 lo=0/\sIx items.size items.size hi=items.size))
  (h:Q (.ref s.heap.objs.size) { s with heap:=s.heap.push { cls:=.type "tuple",data:=.seq ((items.toList.drop (sIx items.size 0 lo)).take (sIx items.size items.size hi-sIx items.size 0 lo)).toArray } })
  (hsz:items.size<=sizeLine):wpAny (model prog w) A (getItem (.ref t) (.ref sl)) Q E s:=by
 have htake:sizeOk (.seq ((items.toList.drop (sIx items.size 0 lo)).take (sIx items.size items.size hi-sIx items.size 0 lo)).toArray):=by
  show ((items.toList.drop (sIx items.size 0 lo)).take (sIx items.size items.size hi-sIx items.size 0 lo)).toArray.size<=sizeLine;rw[List.size_toArray,List.length_take,List.length_drop,Array.length_toList];omega
 have hj:sIx items.size items.size hi<=items.size:=ZP _ _ (AAE _) hi;obtain⟨os,hos,hcs,hds⟩:=id hs;have hTs:s.TypeIs (.ref sl) "slice" := ⟨os,hos,hcs⟩;unfold getItem
 try with_reducible refine AAn ?_
 first|refine AAA (AAB ?_)|skip
 refine AAA (wpAny_sequenceKey ht.typeIs (by decide) ?_);refine AAA (wpAny_callSpecial?_slot (name:=Str.ofString "__getitem__") ht.typeIs PyProof.Rows.slot_tuple_getitem
  (AAb PyProof.Rows.slot_tuple_getitem ht.typeIs entry_tuple_getitem ?_ (args_tuple_getitem _ _)))
 show wpAny _ _ (Builtin.Tuple.tupleItemsOf (.ref t) >>= _) _ _ s;refine AAA (tupleItemsOf_ ht ?_);refine AAA (wpAny_typeOf hTs ?_);rw[if_pos (by decide)];refine AAA (FW hs pl pu ?_);have hno:¬((((sIx items.size 0 lo:Nat):Int)==0&&(1:Int)==1&&(sIx items.size items.size hi-sIx items.size 0 lo)==items.size)=true):=by
  intro q;rw[Bool.and_eq_true,Bool.and_eq_true] at q;have q1:((sIx items.size 0 lo:Nat):Int)=0:=eq_of_beq q.1.1;have q2:sIx items.size items.size hi-sIx items.size 0 lo=items.size:=eq_of_beq q.2;exact hw ⟨by omega,by omega⟩
 show wpAny _ _ (if (((sIx items.size 0 lo:Nat):Int)==0&&(1:Int)==1&&(sIx items.size items.size hi-sIx items.size 0 lo)==items.size)=true then _ else _) _ _ s;rw[if_neg hno,VG]
 first
  |exact AAA (m:=Builtin.Tuple.tupleExact _) (AAp (AAB ⟨_,rfl,AAB h⟩) htake)
  |exact AAA (m:=Builtin.Tuple.tupleExact _) (AAp (AAA (AAB (AAB ⟨_,rfl,AAB h⟩))) htake)
  |exact AAA (AAA (m:=Builtin.Tuple.tupleExact _) (AAp (AAB (AAB ⟨_,rfl,AAB h⟩)) htake))
  |exact AAA (AAA (m:=Builtin.Tuple.tupleExact _) (AAp (AAB ⟨_,rfl,AAB h⟩) htake))
end
end HT
namespace L2
open PySem PySem.Spec PyProof.Rows
noncomputable abbrev TO:=St->Hp->(Option Int->Hp->Prop)->Prop
def PO(X:Cx)(e:Option Expr)(t:TO):Prop:=
 ∀(pins:List (Addr×Obj)) (s:Shared) (σ:St) (H:Hp) (Q:Option Int->Hp->Prop),Inv X pins σ H s->t σ H Q->
  wpAny (model X.prog X.w) X.A (evalPart e X.env) (λu s'=>∃o H',Inv X pins σ H' s'/\IsPart u o/\Q o H') X.xe s
noncomputable def W0:TO:=λ_ H Q=>Q none H
noncomputable def bY(t:TE):TO:=λσ H Q=>t σ H λx H1=>∃i,x=.int i/\Q (some i) H1
section
variable{X:Cx}{e:Expr}{te:TE}{lo hi:Option Expr}{tl th:TO}{pos p2:Pos}
theorem XX:PO X none W0:=by
 intro pins s σ H Q I h;rw[evalPart_none];exact AAB ⟨none,H,I,.none,h⟩
theorem XW(h:PE X e te):PO X (some e) (bY te):=by
 intro pins s σ H Q I hw;rw[evalPart_some];refine thn (h pins s σ H _ I hw) λu s1 ⟨x,H1,I1,r1,q1⟩=>?_;obtain⟨i,rfl,q⟩:=q1;obtain⟨t,rfl⟩:=r1;exact⟨some i,H1,I1,.int i t,q⟩
def SlR(X:Cx)(r:V->Option Int->Option Int->Hp->VK->Prop):Prop:=
 ∀(pins:List (Addr×Obj)) (s:Shared) (σ:St) (H:Hp) (x:V) (v vl vu:Value) (lo hi:Option Int) (sl:Addr) (Q:VK),Inv X pins σ H s->RelV x v->s.heap.IsSliceOf sl vl vu .none->IsPart vl lo->IsPart vu hi->r x lo hi H Q->
  ∃T id,typeLookup (.type T) "__getitem__" = pure (some (.builtin id))/\s.TypeIs v T/\wpAny (model X.prog X.w) X.A (getItem v (.ref sl)) (EP X pins σ Q) X.xe s
theorem SlR.or(h:SlR X r)(h':SlR X r'):SlR X (λx lo hi H Q=>r x lo hi H Q∨r' x lo hi H Q):=by
 intro pins s σ H x v vl vu lo hi sl Q I rx hs pl pu q;rcases q with q|q
 ·exact h pins s σ H x v vl vu lo hi sl Q I rx hs pl pu q
 ·exact h' pins s σ H x v vl vu lo hi sl Q I rx hs pl pu q
noncomputable def tSl(r:V->Option Int->Option Int->Hp->VK->Prop)(te:TE)(tl th:TO):TE:=λσ H Q=>te σ H λx H1=>tl σ H1 λl H2=>th σ H2 λu H3=>r x l u H3 Q
theorem ON(hr:SlR X r)(he:PE X e te)(hl:PO X lo tl)(hu:PO X hi th):PE X (.Subscript e (.Slice lo hi none p2) pos) (tSl r te tl th):=by
 intro pins s σ H Q I h;refine Subscript_ (thn (he pins s σ H _ I h) λv s1 ⟨x,H1,I1,r1,q1⟩=>?_);refine wpAny_Slice (thn (hl pins s1 σ H1 _ I1 q1) λvl s2 ⟨l,H2,I2,pl,q2⟩=>thn (hu pins s2 σ H2 _ I2 q2) λvu s3 ⟨u,H3,I3,pu,q3⟩=>?_);rw[evalPart_none];refine AAB ?_;have I4:Inv X pins σ H3 { s3 with heap:=s3.heap.push { cls:=.type "slice",data:=.fields #[vl,vu,.none] } }:=I3.kept (t':=s3.toks) λb ob q=>AAC _ q;obtain⟨T,id,hT,ht,hg⟩:=hr pins { s3 with heap:=s3.heap.push { cls:=.type "slice",data:=.fields #[vl,vu,.none] } } σ H3 x v vl vu l u s3.heap.objs.size Q I4 r1 (Heap.IsSliceOf.new ..) pl pu q3;show wpAny (model X.prog X.w) X.A (subscriptTail e (.Slice lo hi none p2) v (.ref s3.heap.objs.size)) (EP X pins σ Q) X.xe { s3 with heap:=s3.heap.push { cls:=.type "slice",data:=.fields #[vl,vu,.none] } };exact tail_any (ops:=[.ref s3.heap.objs.size,v]) ht hT hg (by with_unfolding_all rfl)
noncomputable def Op(xs:List V)(lo hi:Option Int):List V:=(xs.drop (HT.sIx xs.length 0 lo)).take (HT.sIx xs.length xs.length hi-HT.sIx xs.length 0 lo)
theorem Js(xs:List V)(lo hi:Option Int):(Op xs lo hi).length<=xs.length:=by
 unfold Op;rw[List.length_take,List.length_drop];omega
noncomputable def eF(K:PySem.W.Frag):V->Option Int->Option Int->Hp->VK->Prop:=λx lo hi H Q=>∃a xs,x=.ref a/\SqT K H a xs /\
 ¬(HT.sIx xs.length 0 lo=0/\HT.sIx xs.length xs.length hi=xs.length)/\∀p,H p=none->Q (.ref p) (upd H p (.tup (Op xs lo hi)))
theorem ZN:SlR X (eF X.K):=by
 intro pins s σ H x v vl vu lo hi sl Q I rx hs pl pu h;obtain⟨a,xs,rfl,hx,hw,q⟩:=h;cases rx;obtain⟨its,r,ht,hz⟩:=I.tuple hx;have hlen:its.toArray.size=xs.length:=by rw[List.size_toArray];exact r.length.symm
 refine⟨"tuple",_,PyProof.Rows.slot_tuple_getitem.lookup,ht.typeIs,?_⟩;refine HT.Ii ht hs pl pu (by rw[hlen];exact hw) ?_ (by rw[hlen];exact hz);rw[hlen];refine⟨.ref s.heap.objs.size,_,I.laid (t':=s.toks) (o:=.tup (Op xs lo hi)) (λb ob q=>AAC _ q) (AAE _) ?_,rfl,q _ (I.hok.fresh (AAE _))⟩;exact⟨AAq (Js xs lo hi) hz,_,(r.drop (HT.sIx xs.length 0 lo)).take (HT.sIx xs.length xs.length hi-HT.sIx xs.length 0 lo),IsTup.new _ _⟩
noncomputable def cI(K:PySem.W.Frag):R2:=λx y H Q=>∃a b xs ys,x=.ref a/\y=.ref b/\SqT K H a xs/\SqT K H b ys/\xs≠[]/\xs.length+ys.length<=sizeLine /\
 (ys=[]->Q (.ref a) H)/\(ys≠[]->∀p,H p=none->Q (.ref p) (upd H p (.tup (xs++ys))))
theorem Vals.nil_iff(r:Vals xs us):us=[]↔xs=[]:=by
 cases r with
 |nil=>simp
 |cons _ _=>simp
theorem Xl:OpR X (binaryOp .Add) (cI X.K):=by
 intro pins s σ H x y v u Q I rx ry h;obtain⟨a,b,xs,ys,rfl,rfl,ha,hb,hx,hz,q1,q2⟩:=h;cases rx;cases ry;obtain⟨its,r1,p1,_⟩:=I.tuple ha;obtain⟨its2,r2,p2,_⟩:=I.tuple hb;refine HT.YN p1 p2 (λz=>hx (r1.nil_iff.mp z)) (λz=>⟨.ref a,H,I,rfl,q1 (r2.nil_iff.mp z)⟩) (λz=>?_) (by rw[←r1.length,←r2.length];exact hz);refine⟨.ref s.heap.objs.size,_,I.laid (t':=s.toks) (o:=.tup (xs++ys)) (λb ob q=>AAC _ q) (AAE _) ?_,rfl,q2 (λw=>z (r2.nil_iff.mpr w)) _ (I.hok.fresh (AAE _))⟩;exact⟨by rw[AAG];exact hz,_,r1.append r2,IsTup.new _ _⟩
theorem Ov:Cd X (.type "tuple") (λxs H Q=>∃a ys,xs=[.ref a]/\SqT X.K H a ys/\Q (.ref a) H):=by
 intro pins s σ H xs us Q I r h;obtain⟨a,ys,rfl,ha,q⟩:=h;obtain⟨u,rfl,ru⟩:=EQ r;cases ru;obtain⟨its,_,p1,_⟩:=I.tuple ha;exact call_tuple_same (items:=its.toArray) p1 ⟨.ref a,H,I,rfl,q⟩
end
noncomputable def ixN(n:Nat)(i:Int):Option Nat:=if 0<=i then (if i<n then some i.toNat else none) else if -(n:Int)<=i then some (i+n).toNat else none
noncomputable def atI{α:Type}(xs:List α)(i:Int):Option α:=(ixN xs.length i).bind λj=>xs[j]?
theorem Rg(h:ixN n i=some j):seqIndex? i n=some j/\j<n/\-(n:Int)<=i/\i<n:=by
 unfold ixN at h;by_cases h0:0<=i
 ·rw[if_pos h0] at h;by_cases h1:i<n
  ·rw[if_pos h1] at h;have e:i.toNat=j:=Option.some.inj h;exact⟨by rw[seqIndex_of h0 h1,e],by omega,by omega,h1⟩
  ·rw[if_neg h1] at h;cases h
 ·rw[if_neg h0] at h;by_cases h1:-(n:Int)<=i
  ·rw[if_pos h1] at h;have e:(i+n).toNat=j:=Option.some.inj h;exact⟨by rw[seqIndex_neg (by omega) h1,e],by omega,h1,by omega⟩
  ·rw[if_neg h1] at h;cases h
theorem Nl(h:atI xs i=some v):∃j,seqIndex? i xs.length=some j/\xs[j]?=some v/\j<xs.length/\-(xs.length:Int)<=i/\i<xs.length:=by
 unfold atI at h;cases e:ixN xs.length i with
 |none=>rw[e] at h;cases h
 |some j=>
  rw[e] at h;obtain⟨h1,h2,h3,h4⟩:=Rg e;exact⟨j,h1,h,h2,h3,h4⟩
theorem Nj{α:Type}{xs:List α}{j:Nat}{v:α}(h:xs[j]?=some v):atI xs (j:Int)=some v:=by
 have hj:j<xs.length:=(AAT.mp h).1;have e:ixN xs.length (j:Int)=some j:=by
  unfold ixN;rw[if_pos (by omega),if_pos (by omega)];simp
 unfold atI;rw[e];exact h
def R6(b:Expr):Prop:=∀o i,subscripted b false o i=operate [o,i] (getItem o i)
def IxR(X:Cx)(r:R2):Prop:=
 ∀(value slice:Expr) (pins:List (Addr×Obj)) (s:Shared) (σ:St) (H:Hp) (x y:V) (v u:Value) (Q:VK),Inv X pins σ H s->RelV x v->RelV y u->r x y H Q->
  subscripted slice false v u=operate [v,u] (getItem v u)->wpAny (model X.prog X.w) X.A (subscriptTail value slice v u) (EP X pins σ Q) X.xe s
def MtR(X:Cx)(id:String)(r:V->List V->Hp->VK->Prop):Prop:=
 ∀(pins:List (Addr×Obj)) (s:Shared) (σ:St) (H:Hp) (x:V) (xs:List V) (v:Value) (us:List Value) (Q:VK),Inv X pins σ H s->RelV x v->Vals xs us->r x xs H Q->
  wpAny (model X.prog X.w) X.A (call (.builtin id) (v::us)) (EP X pins σ Q) X.xe s
section
variable{X:Cx}{a b:Expr}{ta tb:TE}{pos:Pos}
theorem IxR.or(h:IxR X r)(h':IxR X r'):IxR X (λx y H Q=>r x y H Q∨r' x y H Q):=by
 intro value slice pins s σ H x y v u Q I rx ry q hs;rcases q with q|q
 ·exact h value slice pins s σ H x y v u Q I rx ry q hs
 ·exact h' value slice pins s σ H x y v u Q I rx ry q hs
theorem cR(hr:IxR X r)(ha:PE X a ta)(hb:PE X b tb)(hs:R6 b):PE X (.Subscript a b pos) (tOp r ta tb):=by
 intro pins s σ H Q I h;exact Subscript_ (bI ha hb I h λv u s2 x y H2 I2 rx ry q=>hr a b pins s2 σ H2 x y v u Q I2 rx ry q (hs _ _))
noncomputable def cH(K:PySem.W.Frag):R2:=λx y H Q=>∃p xs i v,x=.ref p/\y=.int i/\SqL K H p xs/\atI xs i=some v/\Q v H
noncomputable def cF(K:PySem.W.Frag):R2:=λx y H Q=>∃p xs i v,x=.ref p/\y=.int i/\SqT K H p xs/\atI xs i=some v/\Q v H
noncomputable def cG:R2:=λx y H Q=>∃z i c,x=.str z/\y=.int i/\z.length<=sizeLine/\atI z.cps.toList i=some c/\Q (.str ⟨#[c]⟩) H
theorem ix_list:IxR X (cH X.K):=by
 intro value slice pins s σ H x y v u Q I rx ry h hs;obtain⟨p,xs,i,z,rfl,rfl,hq,he,q⟩:=h;cases rx;obtain⟨t,rfl⟩:=ry;obtain⟨its,r,pl,hz⟩:=I.list hq;obtain⟨j,h1,h2,h3,h4,h5⟩:=Nl he;obtain⟨w,ew,rw'⟩:=r.get h2;have hl:=r.length;have hn:=LA;have fin:EP X pins σ Q w s:=⟨z,H,I,rw',q⟩;by_cases h0:0<=i
 ·have hj:i.toNat=j:=by
   rw[seqIndex_of h0 h5] at h1;exact Option.some.inj h1
  exact item_listR pl.isList h0 (by omega) (by rw[hj];simpa using ew) fin hs
 ·have hj:(i+(its.toArray.size:Int)).toNat=j:=by
   rw[seqIndex_neg (by omega) h4] at h1;rw[List.size_toArray,←hl];exact Option.some.inj h1
  exact subscriptTail_builtinR (x:=w) pl.isList.typeIs slot_list_getitem.lookup
   (wpAny_getItem_list_neg (Q:=λr s'=>r=w/\EP X pins σ Q r s') pl.isList (by omega) (by rw[List.size_toArray]<;>omega) (by omega) (by rw[hj];simpa using ew) ⟨rfl,fin⟩) hs
theorem ix_tup:IxR X (cF X.K):=by
 intro value slice pins s σ H x y v u Q I rx ry h hs;obtain⟨p,xs,i,z,rfl,rfl,hq,he,q⟩:=h;cases rx;obtain⟨t,rfl⟩:=ry;obtain⟨its,r,pl,hz⟩:=I.tuple hq;obtain⟨j,h1,h2,h3,h4,h5⟩:=Nl he;obtain⟨w,ew,rw'⟩:=r.get h2;have hl:=r.length;have hn:=LA;have fin:EP X pins σ Q w s:=⟨z,H,I,rw',q⟩;exact subscriptTail_builtinR (x:=w) pl.typeIs slot_tuple_getitem.lookup
  (getItem_tuple (j:=j) (Q:=λr s'=>r=w/\EP X pins σ Q r s') pl (by omega) (by omega) (by rw[List.size_toArray,←hl];exact h1) (by simpa using ew) ⟨rfl,fin⟩) hs
theorem ao:IxR X cG:=by
 intro value slice pins s σ H x y v u Q I rx ry h hs;obtain⟨z,i,c,rfl,rfl,hz,he,q⟩:=h;obtain⟨t,rfl⟩:=rx;obtain⟨t',rfl⟩:=ry;obtain⟨j,h1,h2,h3,h4,h5⟩:=Nl he;have hl:z.cps.toList.length=z.length:=by simp[Str.length]
 rw[hl] at h1 h4 h5;have hn:=LA;exact tail_any (typeIs_str s z t) slot_str_getitem.lookup (getItem_str (c:=c) (by
  have e1:decide (i < -(2 ^ 63:Int))=false:=AAN (by omega);have e2:decide (i ≥ 2 ^ 63)=false:=AAN (by omega);rw[e1,e2,Bool.or_false]) (by rw[h1];simpa using h2) ⟨.str ⟨#[c]⟩,H,I.tok _,⟨_,rfl⟩,q⟩) hs
noncomputable def rIx(K:PySem.W.Frag):R2:=λx y H Q=>cH K x y H Q∨cF K x y H Q∨cG x y H Q
theorem P3:IxR X (rIx X.K):=ix_list.or (ix_tup.or ao)
theorem Ps(its:List Value)(n j:Nat)(u:Value):Obj.mapSeq (·.setIfInBounds j u) { cls:=.type "list",data:=.seq its.toArray n }={ cls:=.type "list",data:=.seq (its.set j u).toArray n }:=by
 simp[Obj.mapSeq]
theorem Inv.lst(I:Inv X pins σ H s)(h:H p=some (.lst xs)):
  ∃(its:List Value) (n:Nat),Vals xs its/\s.heap.get? p=some { cls:=.type "list",data:=.seq its.toArray n }/\xs.length<=sizeLine:=by
 obtain⟨z,its,n,r,e⟩:=I.hok p _ h;exact⟨its,n,r,e,z⟩
theorem Inv.lstUpd{pins:List (Addr×Obj)}{σ:St}{H:Hp}{s:Shared}{p:Addr}{xs ys:List V}{its its':List Value}{n n':Nat}{f:Obj->Obj}(I:Inv X pins σ H s)(h:H p=some (.lst xs))
  (ho:s.heap.get? p=some { cls:=.type "list",data:=.seq its.toArray n }) (hf:f { cls:=.type "list",data:=.seq its.toArray n }={ cls:=.type "list",data:=.seq its'.toArray n' }) (r:Vals ys its') (hz:ys.length<=sizeLine) (t:Nat) :
  Inv X pins σ (upd H p (.lst ys)) { s with heap:=s.heap.update p f,toks:=t }:=by
 have e:(s.heap.update p f).get? p=some { cls:=.type "list",data:=.seq its'.toArray n' }:=by
  rw[Heap.get?_update_self f ho (by rw[hf]<;>rfl),hf]
 refine I.write (x:=p) (e:=p) (by rw[h];trivial) (.inl rfl) (λb u hb q=>(Heap.get?_update_other _ _ (Ne.symm hb)).trans q) ⟨_,e⟩ ?_;exact⟨hz,its',n',r,e⟩
noncomputable def b9:V->V->V->Hp->(Hp->Prop)->Prop:=λo i v H Q=>∃p xs k j,o=.ref p/\i=.int k/\H p=some (.lst xs)/\ixN xs.length k=some j/\Q (upd H p (.lst (xs.set j v)))
theorem Ue:dk X b9:=by
 intro pins s σ H o i v ov iv u Q I ro ri rv h;obtain⟨p,xs,k,j,rfl,rfl,hp,hj,q⟩:=h;cases ro;obtain⟨t,rfl⟩:=ri;obtain⟨its,n,r,ho,hz⟩:=I.lst hp;obtain⟨h1,h2,h3,h4⟩:=Rg hj;have hl:=r.length;have hn:=LA;have I':Inv X pins σ (upd H p (.lst (xs.set j v))) { s with heap:=s.heap.update p (Obj.mapSeq (·.setIfInBounds j u)) }:=
  I.lstUpd hp ho (Ps its n j u) (r.set rv j) (by rw[List.length_set];exact hz) s.toks
 by_cases h0:0<=k
 ·have hk:k.toNat=j:=by
   rw[seqIndex_of h0 h4] at h1;exact Option.some.inj h1
  exact PySem.W.ki_setAt ho h0 (by omega) (by rw[List.size_toArray,←hl];exact h4) (by rw[hk];exact⟨_,I',q⟩)
 ·have hk:(k+(its.toArray.size:Int)).toNat=j:=by
   rw[seqIndex_neg (by omega) h3] at h1;rw[List.size_toArray,←hl];exact Option.some.inj h1
  exact PySem.W.ki_setBack ho (by omega) (by rw[List.size_toArray,←hl];exact h3) (by omega) (by rw[hk];exact⟨_,I',q⟩)
theorem M3(lo hi:Option Int)(n:Nat):(sliceBounds lo hi none n).1=((HT.sIx n 0 lo:Nat):Int)/\(sliceBounds lo hi none n).2.1=((HT.sIx n n hi:Nat):Int)/\(sliceBounds lo hi none n).2.2=1:=by
 refine⟨?_,?_,rfl⟩
 ·cases lo with
  |none=>simp[sliceBounds,HT.sIx]
  |some i=>
   simp only[sliceBounds,HT.sIx,Option.getD_none,show (1:Int) > 0 by decide,if_true];by_cases h:i<0
   ·simp only[h,if_true]<;>omega
   ·simp only[h,if_false]<;>omega
 ·cases hi with
  |none=>simp[sliceBounds,HT.sIx]
  |some i=>
   simp only[sliceBounds,HT.sIx,Option.getD_none,show (1:Int) > 0 by decide,if_true];by_cases h:i<0
   ·simp only[h,if_true]<;>omega
   ·simp only[h,if_false]<;>omega
theorem Ld(its:List Value)(lo hi:Option Int):slicePick its.toArray lo hi none=((its.drop (HT.sIx its.length 0 lo)).take (HT.sIx its.length its.length hi-HT.sIx its.length 0 lo)).toArray:=by
 obtain⟨h1,h2,h3⟩:=M3 lo hi its.toArray.size;unfold slicePick;rw[h1,h2,h3];simp only[sliceRange_one,pick_run,List.size_toArray]<;>rfl
noncomputable def eG(K:PySem.W.Frag):V->Option Int->Option Int->Hp->VK->Prop:=λx lo hi H Q=>∃a xs,x=.ref a/\SqL K H a xs/\∀p,H p=none->Q (.ref p) (upd H p (.lst (Op xs lo hi)))
theorem W4:SlR X (eG X.K):=by
 intro pins s σ H x v vl vu lo hi sl Q I rx hs pl pu h;obtain⟨a,xs,rfl,hx,q⟩:=h;cases rx;obtain⟨its,r,ht,hz⟩:=I.list hx;have hlen:=r.length;refine⟨"list",_,slot_list_getitem.lookup,ht.isList.typeIs,?_⟩;refine wpAny_getItem_list_slice ht.isList hs pl pu .none (by simp) ?_ (by rw[List.size_toArray]<;>omega);rw[Ld,←hlen];refine⟨.ref s.heap.objs.size,_,I.laid (t':=s.toks) (o:=.lst (Op xs lo hi)) (λb ob q=>AAC _ q) (AAE _) ?_,rfl,q _ (I.hok.fresh (AAE _))⟩;exact⟨AAq (Js xs lo hi) hz,_,0,(r.drop (HT.sIx xs.length 0 lo)).take (HT.sIx xs.length xs.length hi-HT.sIx xs.length 0 lo),AAD _ rfl⟩
noncomputable def HU:V->Bool
 | .non=>true
 | .bl _=>true
 | .int _=>true
 | .str _=>true
 |_=>false
noncomputable def eqV:V->V->Bool
 | .non,.non=>true
 | .bl a,.bl b=>a==b
 | .bl a,.int b=>(if a then 1 else 0)==b
 | .int a,.bl b=>a==(if b then 1 else 0)
 | .int a,.int b=>a==b
 | .str a,.str b=>a==b
 |_,_=>false
theorem bF(ry:RelV y u)(rx:RelV x v)(fy:HU y=true)(fx:HU x=true):SeqAt.EqAt A s u v (eqV y x):=by
 cases y with
 |non=>
  cases ry;cases x with
  |non=>cases rx;exact SeqAt.EqAt.same _
  |bl b=>cases rx;exact SeqAt.EqAt.none_bool b
  |int b=>obtain⟨t,rfl⟩:=rx;exact SeqAt.EqAt.none_int b t
  |str b=>obtain⟨t,rfl⟩:=rx;exact SeqAt.EqAt.none_str b t
  |_=>exact absurd (show false=true from fx) AAf
 |bl a=>
  cases ry;cases x with
  |non=>cases rx;exact SeqAt.EqAt.bool_none a
  |bl b=>cases rx;exact SeqAt.EqAt.bool_bool a b
  |int b=>obtain⟨t,rfl⟩:=rx;exact SeqAt.EqAt.bool_int a b t
  |str b=>obtain⟨t,rfl⟩:=rx;exact SeqAt.EqAt.bool_str a b t
  |_=>exact absurd (show false=true from fx) AAf
 |int a=>
  obtain⟨t',rfl⟩:=ry;cases x with
  |non=>cases rx;exact SeqAt.EqAt.int_none a t'
  |bl b=>cases rx;exact SeqAt.EqAt.int_bool a t' b
  |int b=>obtain⟨t,rfl⟩:=rx;exact SeqAt.EqAt.int_int a t' b t
  |str b=>obtain⟨t,rfl⟩:=rx;exact SeqAt.EqAt.int_str a t' b t
  |_=>exact absurd (show false=true from fx) AAf
 |str a=>
  obtain⟨t',rfl⟩:=ry;cases x with
  |non=>cases rx;exact SeqAt.EqAt.str_none a t'
  |bl b=>cases rx;exact SeqAt.EqAt.str_bool a t' b
  |int b=>obtain⟨t,rfl⟩:=rx;exact SeqAt.EqAt.str_int a t' b t
  |str b=>obtain⟨t,rfl⟩:=rx;exact SeqAt.EqAt.str_str a t' b t
  |_=>exact absurd (show false=true from fx) AAf
 |_=>exact absurd (show false=true from fy) AAf
noncomputable def eqU(x:V)(u:Value):Bool:=match u with
 | .none=>eqV .non x
 | .bool b=>eqV (.bl b) x
 | .int i _=>eqV (.int i) x
 | .str z _=>eqV (.str z) x
 |_=>false
theorem WB(r:RelV y u)(f:HU y=true):eqU x u=eqV y x:=by
 cases y with
 |non=>cases r;rfl
 |bl b=>cases r;rfl
 |int i=>obtain⟨t,rfl⟩:=r;rfl
 |str z=>obtain⟨t,rfl⟩:=r;rfl
 |_=>exact absurd (show false=true from f) AAf
theorem Iv:∀{xs:List V} {us:List Value},Vals xs us->xs.all HU=true->us.any (eqU x)=xs.any λy=>eqV y x
 |_,_,.nil,_=>rfl
 |y::xs,u::us,.cons r t,f=>by
  rw[List.all_cons,Bool.and_eq_true] at f;rw[List.any_cons,List.any_cons,WB r f.1,Iv t f.2]
theorem Ga(rx:RelV x v)(fx:HU x=true):∀{xs:List V} {us:List Value},Vals xs us->xs.all HU=true->∀u∈us,SeqAt.EqAt A s u v (eqU x u)
 |_,_,.nil,_=>λu hu=>by cases hu
 |y::xs,u::us,.cons r t,f=>λu' hu=>by
  rw[List.all_cons,Bool.and_eq_true] at f;rcases AAI.mp hu with rfl|hu
  ·rw[WB r f.1];exact bF r rx f.1 fx
  ·exact Ga rx fx t f.2 u' hu
noncomputable def inV(x:V)(xs:List V):Bool:=xs.any λy=>eqV y x
noncomputable def rIn(K:PySem.W.Frag)(neg:Bool):R2:=λx y H Q=>∃p xs,y=.ref p/\(SqL K H p xs∨SqT K H p xs)/\HU x=true/\xs.all HU=true/\Q (.bl (if neg then !inV x xs else inV x xs)) H
theorem Sh:OpR X (compareOp .In) (rIn X.K false):=by
 intro pins s σ H x y v u Q I rx ry h;obtain⟨p,xs,rfl,hq,fx,fs,q⟩:=h;cases ry;rcases hq with hq|hq
 ·obtain⟨its,r,pl,hz⟩:=I.list hq;refine SeqAt.in_listAt (eqU x) pl.isList (λw hw=>Ga rx fx r fs w (by simpa using hw)) ⟨.bl _,H,I,rfl,?_⟩;rw[show its.toArray.any (eqU x)=its.any (eqU x) by simp,Iv r fs];exact q
 ·obtain⟨its,r,pl,hz⟩:=I.tuple hq;refine SeqAt.in_tupleAt (eqU x) pl (λw hw=>Ga rx fx r fs w (by simpa using hw)) ⟨.bl _,H,I,rfl,?_⟩;rw[show its.toArray.any (eqU x)=its.any (eqU x) by simp,Iv r fs];exact q
theorem NE:OpR X (compareOp .NotIn) (rIn X.K true):=by
 intro pins s σ H x y v u Q I rx ry h;obtain⟨p,xs,rfl,hq,fx,fs,q⟩:=h;cases ry;rcases hq with hq|hq
 ·obtain⟨its,r,pl,hz⟩:=I.list hq;refine SeqAt.notIn_listAt (eqU x) pl.isList (λw hw=>Ga rx fx r fs w (by simpa using hw)) ⟨.bl _,H,I,rfl,?_⟩;rw[show its.toArray.any (eqU x)=its.any (eqU x) by simp,Iv r fs];exact q
 ·obtain⟨its,r,pl,hz⟩:=I.tuple hq;refine SeqAt.notIn_tupleAt (eqU x) pl (λw hw=>Ga rx fx r fs w (by simpa using hw)) ⟨.bl _,H,I,rfl,?_⟩;rw[show its.toArray.any (eqU x)=its.any (eqU x) by simp,Iv r fs];exact q
def tyV(K:PySem.W.Frag)(T:String)(x:V)(H:Hp):Prop:=match x with
 | .str _=>T = "str"
 | .int _=>T = "int"
 | .ref p=>(T = "list" /\ ∃xs,SqL K H p xs)∨(T = "tuple" /\ ∃o,K.lookup p=some o/\o.cls=.type "tuple" /\ o.dict=none) ∨
   (T = "dict" /\ ((∃kvs,H p=some (.dK kvs))∨∃kvs,H p=some (.dT kvs)))∨(T = "set" /\ ∃S n,H p=some (.set S n))
 |_=>False
theorem UN(I:Inv X pins σ H s)(r:RelV x v)(ty:tyV X.K T x H):
  s.TypeIs v T/\∀a,v=.ref a->∃ob,s.heap.get? a=some ob/\ob.dict=none:=by
 cases x with
 |str z=>
  obtain⟨t,rfl⟩:=r;cases (show T = "str" from ty);exact⟨typeIs_str s z t,λ_ e=>nomatch e⟩
 |int i=>
  obtain⟨t,rfl⟩:=r;cases (show T = "int" from ty);exact⟨typeIs_int s i t,λ_ e=>nomatch e⟩
 |ref p=>
  cases r;rcases ty with ⟨rfl,xs,hq⟩|⟨rfl,o,hk,hc,hd⟩|⟨rfl,hk⟩|⟨rfl,S,n,hk⟩
  ·obtain⟨its,_,pl,_⟩:=I.list hq;refine⟨pl.isList.typeIs,λa e=>?_⟩;cases e;obtain⟨o,n,e,c,hd,_⟩:=pl;exact⟨o,e,hd⟩
  ·refine⟨⟨o,I.kIn p o hk,hc⟩,λa e=>?_⟩;cases e;exact⟨o,I.kIn _ o hk,hd⟩
  ·have z:∃o,s.heap.get? p=some o/\o.ExactDict:=by
    rcases hk with ⟨kvs,hk⟩|⟨kvs,hk⟩
    ·obtain⟨_,_,_,_,o,_,_,e,ex,_⟩:=I.hok p _ hk;exact⟨o,e,ex⟩
    ·obtain⟨_,_,_,_,o,_,_,e,ex,_⟩:=I.hok p _ hk;exact⟨o,e,ex⟩
   obtain⟨o,e,ex⟩:=z;refine⟨⟨o,e,ex.1⟩,λa e2=>?_⟩;cases e2;exact⟨o,e,ex.2.1⟩
  ·obtain⟨o,_,_,_,e,ex,_⟩:=I.hok p _ hk;refine⟨⟨o,e,ex.1⟩,λa e2=>?_⟩;cases e2;exact⟨o,e,ex.2.1⟩
 |_=>exact False.elim ty
noncomputable def bn(K:PySem.W.Frag)(T:String)(r:V->List V->Hp->VK->Prop)(to:TE):TE:=λσ H Q=>to σ H λx H1=>tyV K T x H1/\r x [] H1 Q
noncomputable def tBM(K:PySem.W.Frag)(T:String)(r:V->List V->Hp->VK->Prop)(to:TE)(t:TA):TE:=λσ H Q=>to σ H λx H1=>tyV K T x H1/\t σ H1 λxs H2=>r x xs H2 Q
variable{o e:Expr}{es:List Expr}{to:TE}{t:TA}{name:Str}{apos cpos:Pos}{T id:String}{r:V->List V->Hp->VK->Prop}
theorem Zx(pa:PlainAttrs T)(slot:Slot T name id)(hty:typeOf (.builtin id)=pure (.type "method_descriptor"))(hm:MtR X id r)(ho:PE X o to)
  (hbase:attributeBase o name X.env (eval o X.env)=eval o X.env:=by rfl) (hline:(apos.endLine==cpos.line)=true:=by rfl):PE X (.Call (.Attribute o name apos) [] [] cpos) (bn X.K T r to):=by
 intro pins s σ H Q I h;refine wpAny_Call_method0_late hbase hline (thn (ho pins s σ H _ I h) λv s1 ⟨x,H1,I1,r1,ty,q1⟩=>?_);obtain⟨h1,h2⟩:=UN I1 r1 ty;exact⟨T,id,pa,slot,hty,h1,h2,Calls.callWith_builtin rfl (PySem.evalArgs_none (hm pins s1 σ H1 x [] v [] Q I1 r1 .nil q1))⟩
theorem Yk(pa:PlainAttrs T)(slot:Slot T name id)(hty:typeOf (.builtin id)=pure (.type "method_descriptor"))(hm:MtR X id r)(ho:PE X o to)(ha:PA X (e::es) t)
  (hbase:attributeBase o name X.env (eval o X.env)=eval o X.env:=by rfl)
  (hfew:((backTo cpos (starEach (e::es) X.env)).all (λx=>!x.1)&&(backToKw cpos (keywordEach [] X.env)).all (λx=>x.1.isSome)
   && decide ((e::es).length+([]:List Keyword).length+(if ([]:List Keyword).isEmpty then 0 else 1)<30))=true:=by rfl)
  (hline:(apos.endLine==cpos.line)=true:=by rfl) (hs:starEach (e::es) X.env=(false,eval e X.env)::starEach es X.env:=by rfl) (hplain:(backTo cpos (starEach es X.env)).any (·.1)=false:=by rfl) :
  PE X (.Call (.Attribute o name apos) (e::es) [] cpos) (tBM X.K T r to t):=by
 intro pins s σ H Q I h;refine wpAny_Call_method_late hbase hfew hline rfl (thn (ho pins s σ H _ I h) λv s1 ⟨x,H1,I1,r1,ty,q1⟩=>?_);obtain⟨h1,h2⟩:=UN I1 r1 ty;refine⟨T,id,pa,slot,hty,h1,h2,?_⟩;have hA:=ha cpos pins s1 σ H1 _ I1 q1;rw[hs] at hA ⊢;refine Calls.callWith_builtin (by show (false||(backTo cpos (starEach es X.env)).any (·.1))=false;rw[hplain]<;>rfl) (Calls.evalArgs_plain ?_);exact thn hA λus s2 ⟨vs,H2,I2,r2,q2⟩=>hm pins s2 σ H2 x vs v us Q I2 r1 r2 q2
end
def MtM(X:Cx)(id:String)(r:V->List V->Hp->VK->Prop):Prop:=
 ∀(pins:List (Addr×Obj)) (s:Shared) (σ:St) (H:Hp) (x:V) (xs:List V) (v:Value) (us:List Value) (Q:VK),Inv X pins σ H s->RelV x v->Vals xs us->r x xs H Q->
  wpAny (model X.prog X.w) X.A (call (.builtin id) (v::us)) (EP X pins σ Q) X.xe s
theorem Vals.one:∀{x:V} {us:List Value},Vals [x] us->∃u,us=[u]/\RelV x u
 |_,_,.cons r .nil=>⟨_,rfl,r⟩
theorem Vals.two:∀{x y:V} {us:List Value},Vals [x,y] us->∃u v,us=[u,v]/\RelV x u/\RelV y v
 |_,_,_,.cons r (.cons q .nil)=>⟨_,_,rfl,r,q⟩
theorem Vals.zero:∀{us:List Value},Vals [] us->us=[]
 |_,.nil=>rfl
theorem Vals.dropLast(h:Vals xs us):Vals xs.dropLast us.dropLast:=by
 induction h with
 |nil=>exact .nil
 |cons r t ih=>
  cases t with
  |nil=>exact .nil
  |cons q t'=>exact .cons r ih
theorem Vals.rep(h:Vals xs us):∀k:Nat,Vals (List.replicate k xs).flatten (List.replicate k us).flatten
 |0=>.nil
 |k+1=>by
  rw[AAj,AAj,List.flatten_cons,List.flatten_cons];exact Vals.append h (Vals.rep h k)
theorem QC(l:List α):l.eraseIdx (l.length-1)=l.dropLast:=by
 induction l with
 |nil=>rfl
 |cons a r ih=>
  cases r with
  |nil=>rfl
  |cons b r=>
   have e:(a::b::r).length-1=((b::r).length-1)+1:=by
    have h1:(a::b::r).length=r.length+2:=rfl;have h2:(b::r).length=r.length+1:=rfl;omega
   rw[e,List.eraseIdx_cons_succ,ih]
   all_goals rfl
theorem MQ(its:List Value):∀(k:Nat) (acc:List Value),
  List.foldl (λx1 x2=>x1++x2) acc.toArray (List.replicate k its.toArray)=(acc++(List.replicate k its).flatten).toArray
 |0,acc=>by simp
 |k+1,acc=>by
  have e:acc.toArray++its.toArray=(acc++its).toArray:=by simp
  have e2:(acc++its)++(List.replicate k its).flatten=acc++(List.replicate (k+1) its).flatten:=by
   rw[AAj,List.flatten_cons,AAk]
  rw[←e2,←MQ its k (acc++its),←e,AAj,List.foldl_cons]
section
variable{X:Cx}{pins:List (Addr×Obj)}{σ:St}{H:Hp}{s:Shared}{l:Addr}{xs ys:List V}
theorem Inv.lset{its its':List Value}{n:Nat}{f:Array Value->Array Value}{t':Nat}(I:Inv X pins σ H s)(hH:H l=some (.lst xs))
  (e:s.heap.get? l=some { cls:=.type "list",data:=.seq its.toArray n }) (hf:f its.toArray=its'.toArray) (hv:Vals ys its') (hz:ys.length<=sizeLine) :
  Inv X pins σ (upd H l (.lst ys)) { s with heap:=s.heap.update l (Obj.mapSeq f),toks:=t' }:=by
 have q:=PySem.IsL.update e f;rw[hf] at q;refine I.write (x:=l) (e:=l) (by rw[hH];exact trivial) (.inl rfl) (λb' u hb hu=>(Heap.get?_update_other s.heap (Obj.mapSeq f) (Ne.symm hb)).trans hu) ⟨_,q⟩ ?_;exact⟨hz,its',_,hv,q⟩
theorem Inv.lnew(I:Inv X pins σ H s)(hv:Vals ys its)(hz:ys.length<=sizeLine):
  Inv X pins σ (upd H s.heap.objs.size (.lst ys)) { s with heap:=s.heap.push { cls:=.type "list",data:=.seq its.toArray },toks:=t' }:=
 I.laid (λ_ _ q=>AAC _ q) (AAE _) ⟨hz,its,0,hv,AAD _ rfl⟩
theorem Inv.fresh(I:Inv X pins σ H s):H s.heap.objs.size=none:=I.hok.fresh (AAE _)
theorem Inv.lstM(I:Inv X pins σ H s)(hH:H l=some (.lst xs)):xs.length<=sizeLine/\∃(its:List Value) (n:Nat),Vals xs its/\xs.length=its.length/\s.heap.get? l=some { cls:=.type "list",data:=.seq its.toArray n }:=by
 obtain⟨z,its,n,r,e⟩:=I.hok l _ hH;exact⟨z,its,n,r,r.length,e⟩
theorem K2(h:n<=sizeLine):Builtin.List.listTooLong n=false:=by
 unfold Builtin.List.listTooLong;exact AAN (by omega)
end
section
variable{X:Cx}
noncomputable def XL:V->List V->Hp->VK->Prop:=λx vs H Q=>∃l xs y,x=.ref l/\vs=[y]/\H l=some (.lst xs)/\xs.length<sizeLine/\Q .non (upd H l (.lst (xs++[y])))
theorem Sm:MtM X "list.append" XL:=by
 intro pins s σ H x vs v us Q I rx rv h;obtain⟨l,xs,y,rfl,rfl,hH,hz,q⟩:=h;cases rx;obtain⟨u,rfl,ru⟩:=rv.one;obtain⟨z,its,n,r,hl,e⟩:=I.lstM hH;refine call_meets F.slot_list_append ⟨_,e,rfl⟩ F.entry_list_append (F.args_list_append_2 _ _) (PySem.list_append l its.toArray n u (by rw[List.size_toArray];omega)) ⟨e,?_⟩;refine⟨.non,_,I.lset (its':=its++[u]) hH e (by simp) (r.append (.cons ru .nil)) ?_,rfl,q⟩;rw[AAG,List.length_singleton];omega
noncomputable def XJ:V->List V->Hp->VK->Prop:=λx vs H Q=>∃l b xs zs,x=.ref l/\vs=[.ref b]/\H l=some (.lst xs)/\H b=some (.lst zs)/\xs.length+zs.length<=sizeLine/\Q .non (upd H l (.lst (xs++zs)))
theorem Sj:MtM X "list.extend" XJ:=by
 intro pins s σ H x vs v us Q I rx rv h;obtain⟨l,b,xs,zs,rfl,rfl,hH,hB,hz,q⟩:=h;cases rx;obtain⟨u,rfl,ru⟩:=rv.one;cases ru;obtain⟨z,its,n,r,hl,e⟩:=I.lstM hH;obtain⟨z2,its2,n2,r2,hl2,e2⟩:=I.lstM hB;have hsz:its.toArray.size+its2.toArray.size<=sizeLine:=by rw[List.size_toArray,List.size_toArray];omega
 have hlong:¬(!its.toArray.isEmpty&&Builtin.List.listTooLong (its.toArray.size+its2.toArray.size))=true:=by
  rw[K2 hsz,Bool.and_false];exact AAf
 refine call_meets F.slot_list_extend ⟨_,e,rfl⟩ F.entry_list_extend (F.args_list_extend_2 _ _)
  (AutoSeq1.list_extend_list_list_0 l its.toArray n b its2.toArray n2 hlong (by rw[List.size_toArray];omega) (by omega)) ⟨e,e2,?_⟩
 refine⟨.non,_,I.lset (its':=its++its2) hH e (by simp) (r.append r2) ?_,rfl,q⟩;rw[AAG];omega
noncomputable def eK:V->List V->Hp->VK->Prop:=λx vs H Q=>∃l xs y,x=.ref l/\vs=[]/\H l=some (.lst xs)/\xs[xs.length-1]?=some y/\Q y (upd H l (.lst xs.dropLast))
theorem aK:MtM X "list.pop" eK:=by
 intro pins s σ H x vs v us Q I rx rv h;obtain⟨l,xs,y,rfl,rfl,hH,hy,q⟩:=h;cases rx;have hus:=rv.zero;subst hus;obtain⟨z,its,n,r,hl,e⟩:=I.lstM hH;obtain⟨u,hu,ru⟩:=r.get hy;have hy':its.toArray[its.toArray.size-1]?=some u:=by
  show its.toArray[its.length-1]?=some u;rw[←Array.getElem?_toList,←hl];exact hu
 refine call_meets F.slot_list_pop ⟨_,e,rfl⟩ F.entry_list_pop (F.args_list_pop_1 _) (MeetsSeq.list_pop_last l its.toArray n u hy' (by rw[List.size_toArray];omega)) ⟨e,?_⟩;refine⟨y,_,I.lset (its':=its.dropLast) hH e ?_ r.dropLast ?_,ru,q⟩
 ·show its.toArray.eraseIdxIfInBounds (its.toArray.size-1)=its.dropLast.toArray;rw[List.size_toArray,List.eraseIdxIfInBounds_toArray,QC]
 ·rw[List.length_dropLast];omega
noncomputable def eM:R2:=λx y H Q=>∃l b xs zs,x=.ref l/\y=.ref b/\H l=some (.lst xs)/\H b=some (.lst zs)/\xs.length+zs.length<=sizeLine/\∀p,H p=none->Q (.ref p) (upd H p (.lst (xs++zs)))
theorem NF:OpR X (binaryOp .Add) eM:=by
 intro pins s σ H x y v u Q I rx ry h;obtain⟨l,b,xs,zs,rfl,rfl,hH,hB,hz,q⟩:=h;cases rx;cases ry;obtain⟨z,its,n,r,hl,e⟩:=I.lstM hH;obtain⟨z2,its2,n2,r2,hl2,e2⟩:=I.lstM hB;refine PySem.P.add_list e e2 ?_ (by rw[List.size_toArray,List.size_toArray];omega);have ea:its.toArray++its2.toArray=(its++its2).toArray:=by simp
 rw[ea];exact⟨.ref _,_,I.lnew (t':=s.toks) (r.append r2) (by rw[AAG];omega),rfl,q _ I.fresh⟩
noncomputable def eJ:R2:=λx y H Q=>∃l k xs,x=.ref l/\y=.int k/\H l=some (.lst xs)/\-(2 ^ 63)<=k/\k<2 ^ 63/\xs.length * k.toNat<=sizeLine /\
 ∀p,H p=none->Q (.ref p) (upd H p (.lst (List.replicate k.toNat xs).flatten))
theorem Xz(xs:List α)(k:Nat):(List.replicate k xs).flatten.length=k * xs.length:=by
 induction k with
 |zero=>simp
 |succ k ih=>rw[AAj,List.flatten_cons,AAG,ih,Nat.succ_mul,Nat.add_comm]
theorem Z7:OpR X (binaryOp .Mult) eJ:=by
 intro pins s σ H x y v u Q I rx ry h;obtain⟨l,k,xs,rfl,rfl,hH,h1,h2,hz,q⟩:=h;cases rx;obtain⟨t,rfl⟩:=ry;obtain⟨z,its,n,r,hl,e⟩:=I.lstM hH;have hlen:its.toArray.size * k.toNat<=sizeLine:=by rw[List.size_toArray,←hl];exact hz
 have hcap:¬its.toArray.size * k.toNat > (2 ^ 63-1) / 8:=by
  have:(sizeLine:Nat)<=(2 ^ 63-1) / 8:=by decide
  omega
 have hfit:¬(!Builtin.List.listFitsIndex k)=true:=by
  rw[fitsIndex_both h1 h2];exact AAf
 have hlong:¬Builtin.List.listTooLong (its.toArray.size * k.toNat)=true:=by
  rw[K2 hlen];exact AAf
 have hnew:List.foldl (λx1 x2=>x1++x2) #[] (List.replicate (if its.toArray.isEmpty=true then 0 else k.toNat) its.toArray)=(List.replicate k.toNat its).flatten.toArray:=by
  have f0:∀m:Nat,List.foldl (λx1 x2=>x1++x2) #[] (List.replicate m its.toArray)=(List.replicate m its).flatten.toArray:=λm=>by
   have:=MQ its m [];rw[List.nil_append] at this;exact this
  rw[f0];cases its with
  |nil=>simp
  |cons a r'=>rw[if_neg (by simp)]
 refine wpAny_binaryOp_repeat_ref (T := "list") (U := "int") (by decide) ⟨_,e,rfl⟩ (λs'=>typeIs_int s' k t) noFill_list_mul F.fills_int_mul F.slot_int_rmul repeat_list F.slot_int_index.lookup
  (call_meets F.slot_int_rmul (typeIs_int s k t) F.entry_int_rmul (F.args_int_rmul_2 _ _) (int___rmul___int_list k t l its.toArray n)
   ⟨e,rfl,⟨_,e,rfl⟩,call_meets F.slot_list_mul ⟨_,e,rfl⟩ F.entry_list_mul (F.args_list_mul_2 _ _) (AutoListH.list___mul___list_int_3 l its.toArray n k t hfit hcap hlong) ⟨e,?_⟩⟩)
 rw[hnew];exact⟨.ref _,_,I.lnew (t':=s.toks) (r.rep k.toNat) (by rw[Xz,Nat.mul_comm];exact hz),rfl,q _ I.fresh⟩
end
section
variable{κ:Type}[DecidableEq κ]
noncomputable def GN(kvs:List (κ×V))(k:κ):Option V:=(kvs.find? λkv=>decide (kv.1=k)).map (·.2)
noncomputable def IZ(kvs:List (κ×V))(k:κ)(v:V):List (κ×V):=
 if (kvs.any λkv=>decide (kv.1=k))=true then kvs.map (λkv=>if kv.1=k then (kv.1,v) else kv) else kvs++[(k,v)]
theorem KN{p:κ×V}{r:List (κ×V)}{k:κ}(e:p.1=k):GN (p::r) k=some p.2:=by simp[GN,List.find?_cons,e]
theorem KO{p:κ×V}{r:List (κ×V)}{k:κ}(e:¬p.1=k):GN (p::r) k=GN r k:=by simp[GN,List.find?_cons,e]
theorem N1(k:κ):∀kvs:List (κ×V),(kvs.any λkv=>decide (kv.1=k))=(GN kvs k).isSome
 |[]=>rfl
 |p::r=>by
  rw[List.any_cons];by_cases e:p.1=k
  ·simp only[KN e,AAO e,Bool.true_or,Option.isSome_some]
  ·rw[KO e,AAN e,Bool.false_or];exact N1 k r
theorem Jp(kvs:List (κ×V))(k:κ)(v:V):(IZ kvs k v).length<=kvs.length+1:=by
 unfold IZ;split
 ·rw[AAF];omega
 ·rw[AAG,AAH,List.length_nil];omega
theorem RelO.isSome_eq(r:RelO o u):o.isSome=u.isSome:=by
 cases o with
 |none=>cases u with
  |none=>rfl
  |some _=>exact(show False from r).elim
 |some _=>cases u with
  |none=>exact(show False from r).elim
  |some _=>rfl
theorem RelO.getD(r:RelO o u)(rd:RelV d d'):RelV (o.getD d) (u.getD d'):=by
 cases o with
 |none=>cases u with
  |none=>exact rd
  |some _=>exact(show False from r).elim
 |some _=>cases u with
  |none=>exact(show False from r).elim
  |some _=>exact r
theorem KV.val{kvs:List (κ×V)}{vs:List (κ×Value)}(r:KV kvs vs)(k:κ):RelO (GN kvs k) (valueAt vs k):=by
 unfold KV at r
 induction r with
 |nil=>exact True.intro
 |@cons p q ps qs h t ih=>
  obtain⟨h1,h2⟩:=h;by_cases e:p.1=k
  ·have e':q.1=k:=h1.symm.trans e;have b:valueAt (q::qs) k=some q.2:=by simp[valueAt,List.find?_cons,e']
   rw[KN e,b];exact h2
  ·have e':¬q.1=k:=λz=>e (h1.trans z);have b:valueAt (q::qs) k=valueAt qs k:=by simp[valueAt,List.find?_cons,e']
   rw[KO e,b];exact ih
theorem KV.any(r:KV kvs vs)(k:κ):(kvs.any λkv=>decide (kv.1=k))=vs.any λkv=>decide (kv.1=k):=by
 unfold KV at r
 induction r with
 |nil=>rfl
 |cons h t ih=>rw[List.any_cons,List.any_cons,ih,h.1]
theorem KV.repl(r:KV kvs vs)(k:κ)(ry:RelV y u):
  KV (kvs.map λkv=>if kv.1=k then (kv.1,y) else kv) (vs.map λkv=>if kv.1=k then (kv.1,u) else kv):=by
 unfold KV at r ⊢
 induction r with
 |nil=>exact .nil
 |@cons p q ps qs h t ih=>
  rw[AAW,AAW];refine .cons ?_ ih;obtain⟨h1,h2⟩:=h;by_cases e:p.1=k
  ·rw[if_pos e,if_pos (h1.symm.trans e)];exact⟨h1,ry⟩
  ·rw[if_neg e,if_neg (λz=>e (h1.trans z))];exact⟨h1,h2⟩
theorem KV.put(r:KV kvs vs)(k:κ)(ry:RelV y u):KV (IZ kvs k y) (stored vs k u):=by
 unfold IZ stored;rw[r.any k];by_cases e:(vs.any λkv=>decide (kv.1=k))=true
 ·rw[if_pos e,if_pos e];exact r.repl k ry
 ·rw[if_neg e,if_neg e];exact Paired.snoc r ⟨rfl,ry⟩
theorem KV.length(r:KV kvs vs):kvs.length=vs.length:=Paired.length r
end
theorem Rf(r:RelV (kV k) u):(Cg P w).is k u=true:=by
 cases k with
 |inl i=>obtain⟨t,e⟩:=(show ∃t,u=Value.int i t from r);subst e;exact OT P w i t
 |inr x=>obtain⟨t,e⟩:=(show ∃t,u=Value.str x t from r);subst e;exact OS P w x t
theorem MJ:∀{ks:List Key} {us:List Value},Vals (ks.map kV) us->ItemsAre (Cg P w) ks us
 |[],_,r=>by rw[List.map_nil] at r;cases r;exact .nil
 |k::ks,_,r=>by
  rw[AAW] at r;cases r with
  |cons h t=>exact .cons (Rf h) (MJ t)
noncomputable abbrev KT(H:Hp):List (List Key×V)->List (List Key×Addr×Value)->Prop:=Paired λp q=>p.1=q.1/\H q.2.1=some (.tup (p.1.map kV))/\RelV p.2 q.2.2
theorem KT.val{H:Hp}{kvs:List (List Key×V)}{xs:List (List Key×Addr×Value)}(r:KT H kvs xs)(k:List Key):RelO (GN kvs k) ((atKey xs k).map (·.2)):=by
 induction r with
 |nil=>exact True.intro
 |@cons p q ps qs h t ih=>
  obtain⟨h1,_,h2⟩:=h;by_cases e:p.1=k
  ·have e':q.1=k:=h1.symm.trans e;have b:atKey (q::qs) k=some q.2:=by simp[atKey,List.find?_cons,e']
   rw[KN e,b];exact h2
  ·have e':¬q.1=k:=λz=>e (h1.trans z);have b:atKey (q::qs) k=atKey qs k:=by simp[atKey,List.find?_cons,e']
   rw[KO e,b];exact ih
theorem KT.repl(r:KT H kvs xs)(k:List Key)(ry:RelV y u):
  KT H (kvs.map λkv=>if kv.1=k then (kv.1,y) else kv) (xs.map (putAt k u)):=by
 induction r with
 |nil=>exact .nil
 |@cons p q ps qs h t ih=>
  rw[AAW,AAW];refine .cons ?_ ih;obtain⟨h1,h2,h3⟩:=h;unfold putAt;by_cases e:p.1=k
  ·rw[if_pos e,if_pos (h1.symm.trans e)];exact⟨h1,h2,ry⟩
  ·rw[if_neg e,if_neg (λz=>e (h1.trans z))];exact⟨h1,h2,h3⟩
theorem KT.put(r:KT H kvs xs)(k:List Key)(hb:H b=some (.tup (k.map kV)))(ry:RelV y u):
  KT H (IZ kvs k y) (storedH xs k b u):=by
 have e:(kvs.any λkv=>decide (kv.1=k))=(atKey xs k).isSome:=by
  rw[N1,(r.val k).isSome_eq,Option.isSome_map]
 unfold IZ storedH;rw[e];by_cases q:(atKey xs k).isSome=true
 ·rw[if_pos q,if_pos q];exact r.repl k ry
 ·rw[if_neg q,if_neg q];exact Paired.snoc r ⟨rfl,hb,ry⟩
theorem KT.keeps(r:KT H kvs xs)(ht:∀b ys,H b=some (.tup ys)->H' b=some (.tup ys)):KT H' kvs xs:=
 Paired.mapP r λ_ _ z=>⟨z.1,ht _ _ z.2.1,z.2.2⟩
section
variable{P:Program}{w:World}{H:Hp}{h:Heap}{a:Addr}
theorem Yh(ok:HOk P w H h)(e:Rd H a u):ObjOk P w H h a u:=e.ok ok
theorem Rs(ok:HOk P w H h)(e:Rd H a (.dK kvs)):kvs.length<=sizeLine/\(a==sysModules)=false/\∃vs,KV kvs vs/\h.DictOf (Cg P w) a vs:=
 show ObjOk P w H h a (.dK kvs) from Yh ok e
theorem dQ(ok:HOk P w H h)(e:H a=some (.dK kvs)):kvs.length<=sizeLine/\(a==sysModules)=false/\∃vs,KV kvs vs/\h.DictOf (Cg P w) a vs:=Rs ok (.inl e)
theorem NN(ok:HOk P w H h)(e:H a=some (.tup (ks.map kV))):(tupleKind (Cg P w)).is h ks a:=by
 obtain⟨_,its,r,o,h1,h2,n,h3⟩:=(show ObjOk P w H h a (.tup (ks.map kV)) from ok a _ e);exact⟨o,its.toArray,n,h1,h2,h3,by simpa using MJ r⟩
theorem Rr(ok:HOk P w H h)(e:Rd H a (.dT kvs)):kvs.length<=sizeLine/\(a==sysModules)=false /\
  ∃xs,KT H kvs xs/\h.DictOfH (tupleKind (Cg P w)) a xs:=by
 obtain⟨z,y,xs,r,o,es,ep,h1,h2,h3,h4,h5⟩:=(show ObjOk P w H h a (.dT kvs) from Yh ok e);refine⟨z,y,xs,r,o,es,ep,h1,h2,h3,h4,λx hx=>?_,h5⟩;have all:∀{l:List (List Key×V)} {m:List (List Key×Addr×Value)},KT H l m->∀x∈m,(tupleKind (Cg P w)).is h x.1 x.2.1:=by
  intro l m q
  induction q with
  |nil=>intro x hx;exact nomatch hx
  |@cons p q ps qs hq t ih=>
   intro x hx;rcases AAI.mp hx with e|hx
   ·subst e;exact NN ok (by rw[←hq.1];exact hq.2.1)
   ·exact ih x hx
 exact all r x hx
theorem dN(ok:HOk P w H h)(e:H a=some (.dT kvs)):kvs.length<=sizeLine/\(a==sysModules)=false /\
  ∃xs,KT H kvs xs/\h.DictOfH (tupleKind (Cg P w)) a xs:=Rr ok (.inl e)
end
def DGet(H:Hp)(a:Addr)(y:V)(r:Option V):Prop:=
 (∃kvs k,Rd H a (.dK kvs)/\y=kV k/\r=GN kvs k)∨∃kvs k b,Rd H a (.dT kvs)/\y=.ref b/\H b=some (.tup (k.map kV))/\r=GN kvs k
def DPut(H:Hp)(a:Addr)(y v:V)(H':Hp):Prop:=
 (∃kvs k,H a=some (.dK kvs)/\y=kV k/\kvs.length<sizeLine/\H'=upd H a (.dK (IZ kvs k v))) ∨
 ∃kvs k b,H a=some (.dT kvs)/\y=.ref b/\H b=some (.tup (k.map kV))/\kvs.length<sizeLine/\H'=upd H a (.dT (IZ kvs k v))
theorem DGet.k{H:Hp}{a:Addr}{kvs:List (Key×V)}{k:Key}(e:H a=some (.dK kvs)):DGet H a (kV k) (GN kvs k):=.inl ⟨kvs,k,.inl e,rfl,rfl⟩
theorem DPut.k{H:Hp}{a:Addr}{kvs:List (Key×V)}{k:Key}{v:V}(e:H a=some (.dK kvs))(hl:kvs.length<sizeLine):DPut H a (kV k) v (upd H a (.dK (IZ kvs k v))):=.inl ⟨kvs,k,e,rfl,hl,rfl⟩
section
variable{X:Cx}{pins:List (Addr×Obj)}{σ:St}{H:Hp}{s:Shared}{a:Addr}{y v:V}{u r:Value}{o:Option V}{A:Around}{E:Value->Shared->Prop}
theorem Inv.big(I:Inv X pins σ H s):sysModules<s.heap.objs.size:=by
 have h:mainGlobals<s.heap.objs.size:=(I.mod.glob.keeps I.bk).lt;exact Nat.lt_trans (by decide) h
theorem eX(hu:A.units+1<cLine)(I:Inv X pins σ H s)(g:DGet H a y o)(ry:RelV y u)(h:∀s',Inv X pins σ H s'->Q (.bool o.isSome) s'):
  wpAny (model X.prog X.w) A (compareOp .In u (.ref a)) Q E s:=by
 rcases g with ⟨kvs,k,e,ey,l⟩|⟨kvs,k,b,e,ey,eb,l⟩
 ·subst ey;obtain⟨z,hd,vs,rel,dd⟩:=Rs I.hok e;refine wpAny_in_of (Rf ry) hd dd.mapOf ?_;rw[←(rel.val k).isSome_eq,←l];exact h _ (I.tok _)
 ·subst ey;cases (show u=Value.ref b from ry);obtain⟨z,hd,xs,rel,dd⟩:=Rr I.hok e;refine wpAny_in_heap (tupleKind_room_in1 hu) (NN I.hok eb) hd dd ?_;have q:=(rel.val k).isSome_eq;rw[Option.isSome_map] at q;rw[←q,←l];exact h _ (I.tok _)
theorem Ru(I:Inv X pins σ H s)(mu:Mut (H a))(hs:Heap.SameBut a s.heap h')(he:∃q,h'.get? a=some q)(new:ObjOk X.prog X.w (upd H a ob) h' a ob):
  Inv X pins σ (upd H a ob) { s with heap:=h',toks:=t' }:=
 I.write (x:=a) (e:=a) mu (.inl rfl) (λb q hb z=>(hs.2 b hb).trans z) he new
theorem bG(z:kvs.length<=sizeLine)(hd:(a==sysModules)=false)(rel:KV kvs vs)(dd:h'.DictOf (Cg P w) a vs):
  ObjOk P w H' h' a (.dK kvs):=⟨z,hd,vs,rel,dd⟩
theorem TR(hu:A.units+1<cLine)(I:Inv X pins σ H s)(g:DPut H a y v H')(ry:RelV y u)(rv:RelV v r)(h:∀s',Inv X pins σ H' s'->Q () s'):
  wpAny (model X.prog X.w) A (setItem (.ref a) u r) Q E s:=by
 rcases g with ⟨kvs,k,e,ey,l,eH⟩|⟨kvs,k,b,e,ey,eb,l,eH⟩
 ·subst ey eH;obtain⟨z,hd,vs,rel,dd⟩:=dQ I.hok e;have hz:vs.length<=sizeLine:=by rw[←rel.length];exact z
  have hl:(IZ kvs k v).length<=sizeLine:=by have:=Jp kvs k v;omega
  refine wpAny_setItem_pairs (hsz:=hz) (Rf ry) dd λh' dd' hs=>h _ ?_;have he:∃q,h'.get? a=some q:=let ⟨q,_,_,hq,_⟩:=dd';⟨q,hq⟩
  exact Ru I (by rw[e];exact True.intro) hs he (bG hl hd (rel.put k rv) dd')
 ·subst ey eH;cases (show u=Value.ref b from ry);obtain⟨z,hd,xs,rel,dd⟩:=dN I.hok e;have hz:xs.length<=sizeLine:=by rw[←Paired.length rel];exact z
  have hl:(IZ kvs k v).length<=sizeLine:=by have:=Jp kvs k v;omega
  refine wpAny_setItem_heap (hsz:=hz) (tupleKind_room_in1 hu) (NN I.hok eb) dd λh' dd' hs=>h _ ?_;obtain⟨q,es,ep,hq,h2,h3,h4,_,h5⟩:=dd';refine Ru I (by rw[e];exact True.intro) hs ⟨q,hq⟩ ⟨hl,hd,_,(rel.put k eb rv).keeps λc ys ec=>?_,q,es,ep,hq,h2,h3,h4,h5⟩;rw[BG (cp ec e (λz=>nomatch z))];exact ec
end
def bM(i:Expr):Prop:=∀ov iv,subscripted i false ov iv=operate [ov,iv] (getItem ov iv)
theorem W1{prog:Program}{w:World}{A:Around}{E:Value->Shared->Prop}{s:Shared}{env:Env}{value slice:Expr}{pos:Pos}{T id:String}{Q:Value->Shared->Prop}
  (hl:typeLookup (.type T) "__getitem__" = pure (some (.builtin id))) (hs:bM slice)
  (h:wpAny (model prog w) A (eval value env) (λo s₁=>wpAny (model prog w) A (eval slice env) (λi s₂=>s₂.TypeIs o T/\wpAny (model prog w) A (getItem o i) Q E s₂) E s₁) E s) :
  wpAny (model prog w) A (eval (.Subscript value slice pos) env) Q E s:=by
 refine Subscript_ (AAh h (λo s₁ h₁=>AAh h₁ (λi s₂ h₂=>?_) λ_ _ x=>x) λ_ _ x=>x);obtain⟨hT,h₂⟩:=h₂;unfold subscriptTail;refine AAA ?_;rw[getitemInPython_of_ne hT.not_modules];refine AAA (wpAny_specialOf hT hl ?_);have fin:wpAny (model prog w) A (subscripted slice false o i) (λr s₃=>wpAny (model prog w) A (letTemporaryGo value o r >>= λ_=>pure r) Q E s₃) E s₂:=by
  rw[hs o i];exact wpAny_operating (AAh h₂ (λr s₃ h₃=>AAA (wpAny_letTemporaryGo (AAB h₃))) λ_ _ x=>x)
 first
  |exact AAB (AAA fin)
  |exact AAA (AAB (AAA fin))
  |exact AAA fin
noncomputable def bi(ty td:TE):TE:=λσ H Q=>ty σ H λy H1=>td σ H1 λx H2=>∃a o,x=.ref a/\DGet H2 a y o/\Q (.bl o.isSome) H2
noncomputable def bp(td ty tv:TE):TS:=λD σ H=>tv σ H λv H1=>td σ H1 λx H2=>ty σ H2 λy H3=>∃a H4,x=.ref a/\DPut H3 a y v H4/\D.nx σ H4
section
variable{X:Cx}{o i value:Expr}{pos pos':Pos}{td ty tv:TE}
theorem Z0(hu:X.A.units+1<cLine)(hi:PE X i ty)(ho:PE X o td):PC X .In i o (bi ty td):=by
 intro pins s σ H Q I h;refine thn (hi pins s σ H _ I h) λiv s1 ⟨y,H1,I1,ry,q1⟩=>thn (ho pins s1 σ H1 _ I1 q1) λu s2 ⟨x,H2,I2,rx,a,ov,ex,g,q2⟩=>?_;subst ex;obtain rfl:u=Value.ref a:=rx;exact eX hu I2 g ry λs3 I3=>⟨.bl ov.isSome,H2,I3,rfl,q2⟩
theorem XV(hu:X.A.units+1<cLine)(ho:PE X o td)(hi:PE X i ty)(hv:PE X value tv)(hs:swapsWith value (some (.Subscript o i pos')) pos.line X.env=pure false):
  PS X (.Assign [.Subscript o i pos'] value pos) (bp td ty tv):=by
 intro pins s σ H D I h;refine wpAny_Assign_Subscript (thn (hv pins s σ H _ I h) λr s1 ⟨v,H1,I1,rv,q1⟩=>thn (ho pins s1 σ H1 _ I1 q1) λu s2 ⟨x,H2,I2,rx,q2⟩=>thn (hi pins s2 σ H2 _ I2 q2) λiv s3 ⟨y,H3,I3,ry,a,H4,ex,g,q3⟩=>?_) hs;subst ex;obtain rfl:u=Value.ref a:=rx;exact TR hu I3 g ry rv λs4 I4=>⟨σ,H4,I4,q3⟩
end
theorem WG(h:Heap)(hb:sysModules<h.objs.size):ObjOk P w H (h.push { cls:=.type "dict",data:=.dict #[] }) h.objs.size (.dK []):=
 ⟨AAi _,AAd.mpr (Ne.symm (AAc hb)),[],.nil,Heap.DictOf.new h⟩
noncomputable def ZJ:TE:=λ_ H Q=>∀p,H p=none->Q (.ref p) (upd H p (.dK []))
section
variable{X:Cx}{pos:Pos}
theorem VP:PE X (.Dict [] [] pos) ZJ:=λpins s σ H Q I h=>
 wpAny_Dict_empty ⟨.ref s.heap.objs.size,_,I.laid (a:=s.heap.objs.size) (o:=.dK []) (t':=s.toks) (λ_ _ q=>AAC _ q) (AAE _) (WG s.heap I.big),rfl,h _ (I.hok.fresh (AAE _))⟩
end
structure M1(X:Cx)(o:Expr)(m:Str)(apos:Pos)(e:Expr)(cpos:Pos):Prop where
 base:attributeBase o m X.env (eval o X.env)=eval o X.env
 few:((backTo cpos (starEach [e] X.env)).all (λx=>!x.1)&&(backToKw cpos (keywordEach [] X.env)).all (λx=>x.1.isSome)
  && decide (([e]:List Expr).length+([]:List Keyword).length+(if ([]:List Keyword).isEmpty then 0 else 1)<30))=true
 line:(apos.endLine==cpos.line)=true
 trees:backTo cpos (starEach [e] X.env)=[(false,eval e X.env)]
def IsD(H:Hp)(a:Addr):Prop:=(∃kvs,Rd H a (.dK kvs))∨∃kvs,Rd H a (.dT kvs)
theorem aq(I:Inv X pins σ H s)(d:IsD H a):
  s.TypeIs (.ref a) "dict" /\ (∀b,Value.ref a=.ref b->∃ob,s.heap.get? b=some ob/\ob.dict=none)/\(a==sysModules)=false:=by
 rcases d with ⟨kvs,e⟩|⟨kvs,e⟩
 ·obtain⟨_,hd,vs,_,dd⟩:=Rs I.hok e;refine⟨dd.typeIs,λb q=>?_,hd⟩;cases q;obtain⟨ob,_,_,h1,h2,_⟩:=dd;exact⟨ob,h1,h2.2.1⟩
 ·obtain⟨_,hd,xs,_,dd⟩:=Rr I.hok e;refine⟨dd.typeIs,λb q=>?_,hd⟩;cases q;obtain⟨ob,_,_,h1,h2,_⟩:=dd;exact⟨ob,h1,h2.2.1⟩
section
variable{X:Cx}{pins:List (Addr×Obj)}{σ:St}{H:Hp}{s:Shared}{a:Addr}{y:V}{u:Value}{o:Option V}{A:Around}{E:Value->Shared->Prop}
theorem bH(hu:A.units+1<cLine)(I:Inv X pins σ H s)(g:DGet H a y o)(ry:RelV y u)(h:∀w' s',Inv X pins σ H s'->RelV (o.getD .non) w'->Q w' s'):
  wpAny (model X.prog X.w) A (call (.builtin "dict.get") [.ref a,u]) Q E s:=by
 rcases g with ⟨kvs,k,e,ey,l⟩|⟨kvs,k,b,e,ey,eb,l⟩
 ·subst ey;obtain⟨z,hd,vs,rel,dd⟩:=Rs I.hok e;refine call_meetsIn PySem.F.slot_dict_get dd.typeIs PySem.F.entry_dict_get (PySem.F.args_dict_get_2 _ _) (meets_dict_get (Cg X.prog X.w) a (Rf ry) hd) ⟨_,dd.mapOf,h _ _ (I.tok _) ?_⟩;rw[l];exact(rel.val k).getD rfl
 ·subst ey;cases (show u=Value.ref b from ry);obtain⟨z,hd,xs,rel,dd⟩:=Rr I.hok e;refine call_meetsIn PySem.F.slot_dict_get dd.typeIs PySem.F.entry_dict_get (PySem.F.args_dict_get_2 _ _) (meetsH_dict_get (tupleKind (Cg X.prog X.w)) a b hd) ⟨tupleKind_room_in1 hu,k,xs,NN I.hok eb,dd,h _ _ (I.tok _) ?_⟩;rw[l];exact(rel.val k).getD rfl
end
noncomputable def ZK(td ty:TE):TE:=λσ H Q=>td σ H λx H1=>∃a,x=.ref a/\IsD H1 a/\ty σ H1 λy H2=>∃o,DGet H2 a y o/\Q (o.getD .non) H2
section
variable{X:Cx}{o e:Expr}{apos cpos:Pos}{td ty:TE}
theorem VQ(hu:X.A.units+1<cLine)(ho:PE X o td)(he:PE X e ty)(m:M1 X o "get" apos e cpos):PE X (.Call (.Attribute o "get" apos) [e] [] cpos) (ZK td ty):=by
 intro pins s σ H Q I h;refine wpAny_Call_method m.base m.few m.line PySem.F.plainAttrs_dict PySem.F.slot_dict_get PySem.F.type_dict_get (thn (ho pins s σ H _ I h) λu s1 ⟨x,H1,I1,rx,a,ex,d,q1⟩=>?_);subst ex;obtain rfl:u=Value.ref a:=rx;obtain⟨t1,t2,_⟩:=aq I1 d;refine⟨t1,t2,?_⟩;rw[m.trees];refine Calls.callWith_builtin rfl (Calls.evalArgs_plain (Calls.spliced_cons (thn (he pins s1 σ H1 _ I1 q1) λiv s2 ⟨y,H2,I2,ry,ov,g,q2⟩=>Calls.spliced_nil ?_)));exact bH hu I2 g ry λw' s3 I3 rw'=>⟨_,H2,I3,rw',q2⟩
end
end L2
namespace Att
open PySem PySem.W PySem.Calls PyProof.Rows
theorem Jx:∀(ns:List Int) (vs:List Value),WellAll P h vs (ns.map WData.int)->IntsAre vs ns:=by
 intro ns
 induction ns with
 |nil=>
  intro vs w;rw[List.map_nil] at w;cases w;exact .nil
 |cons n ns ih=>
  intro vs w;rw[AAW] at w;cases w with
  |cons a b=>
   cases a;exact .cons _ _ (ih _ b)
theorem SU{l:OpenLaw}{n:Nat}(hn:l.most=some n){P:Params}{h:Heap}{args:List WData}{vals:List Value}
  (hpre:l.row.toRowW.claim.pre args=true) (hwl:WellAll P h vals args) :
  ∃a vs ns,vals=[Value.ref a]/\args=[WData.list (ns.map WData.int)]/\h.get? a=some { cls:=.type "list",data:=.seq vs.toArray }/\IntsAre vs ns/\ns.length<=n:=by
 have hsh:WShape.hasAll [] args [.list .int]=true:=(pre_splitW hpre).1;have hc:l.pre.holds [] { args:=args }=true:=(pre_splitW hpre).2;obtain⟨d,r,rfl,h1,h2⟩:=hasAllW_cons hsh;obtain rfl:=hasAllW_nil h2;obtain⟨xs,rfl,h3⟩:=hasW_list h1;obtain⟨ns,rfl⟩:=items_int h3;have hlen:ns.length<=n:=by
  unfold OpenLaw.pre at hc;have h4:(WTm.not (.lt (.lit (.int (n:Int))) (.len (.arg 0)))).holds [] { args:=[.list (ns.map .int)] }=true:=by
   have h4:=(holds_andW hc).1;rw[hn] at h4;exact h4
  have h5:=condW_of h4 (w_not (w_lt w_lit (w_len_list (w_arg rfl))));rw[AAF] at h5;refine Nat.le_of_not_lt λq=>?_;have q':(n:Int)<((ns.length:Nat):Int):=by omega
  first
   |(rw[AAO q'] at h5;exact absurd h5 (by decide))
   |(simp at h5;omega)
 cases hwl with
 |cons w1 w2=>
  cases w2;cases w1 with
  |list ho hall=>exact⟨_,_,ns,rfl,rfl,ho,Jx ns _ hall,hlen⟩
theorem Sb(l:OpenLaw)(args:List WData):l.row.toRowW.claim.post args (.bool true) args=true:=
 postW_of (r:=l.row.toRowW) (X:=(true==true))
  (show WShape.has [] (.bool true) .bool=true by first|rfl|decide|simp[WShape.has,WShape.arms,WShape.armsAll])
  (show (WTm.eq .res (.lit (.bool true))).value [] { args:=args,res:=some (.bool true),after:=args }=some (.bool (true==true)) from w_eq_bool (w_res rfl) w_lit) rfl
theorem O3{l:OpenLaw}{n:Nat}{q:Program}{loose:List Str}{XP:(Str->Option Value)->Heap->Prop}{YP:World->Heap->Prop}{d:DefRec}
  (hn:l.most=some n) (hdf:d.params.defaults=[])
  (call:∀(w:World) (s₀ s₁:Shared) (mg mb:Str->Option Value) (fa:Addr) (o:Obj) (pm cd doc:Value) (a:Addr) (vs:List Value) (ns:List Int),
   Ground q loose [] XP w s₀ mg mb s₁.heap->YP w s₁.heap->
   s₁.heap.get? fa=some o->o.data=.func (docDef d.name d.params d.body d.scope pm cd doc)->s₁.heap.CodeRec cd d.name->mg d.name=some (.ref fa)->
   s₁.heap.get? a=some { cls:=.type "list",data:=.seq vs.toArray }->IntsAre vs ns->ns.length<=n->s₁.gens=#[]->
   codeAny (model l.prog w) callerA (.call (.ref fa) ⟨[.ref a],[]⟩) (λr s'=>r=.ok (.ret (.bool true))/\OldK s₁.heap s'.heap/\s'.os=s₁.os/\AllBare s'.gens) s₁) :
  WalkO q loose XP YP l.row.toRowW d [] (λf vs=>PySem.call f vs):=by
 intro w s₀ s₁ mg mb G Y fa o pm cd doc dV kV ho hd hcd hD hmg hg args vals as hpre hlay hrd hwl hlo;obtain rfl:dV=.none:=Dflts.none hD hdf;obtain rfl:kV=.none:=Dflts.noKw hD;obtain⟨a,vs,ns,rfl,rfl,hobj,hints,hlen⟩:=SU hn hpre hwl;refine enter_call (codeAny_mono (call w s₀ s₁ mg mb fa o pm cd doc a vs ns G Y ho (fd_plain hd) hcd hmg hobj hints hlen hg) λr s' hq=>?_);obtain⟨rfl,h2,h3,h4⟩:=hq;exact⟨.inl ⟨.bool true,.bool true,[],rfl,λ_=>rfl,.bool true,Sb l _,λ_=>⟨List.Pairwise.nil,λ_ hm=>(nomatch hm)⟩⟩,h2,h3,h4⟩
end Att
namespace L2
open PySem PySem.Spec PyProof.Rows
theorem Ls:∀{vs:List Value} {ns:List Int},IntsAre vs ns->Vals (ns.map V.int) vs
 |_,_,.nil=>.nil
 |_,_,.cons n t h=>.cons ⟨t,rfl⟩ (Ls h)
def YV(H:Hp):Prop:=∀b,H b=none∨∃o xs,H b=some (.frz o (.lst xs))
theorem Vl{P:Program}{w:World}{K:PySem.W.Frag}{mg mb:Str->Option Value}{CX:CXT}{k:Nat}{fa a:Addr}{fd:FuncData}{x:Str}{sp:Sp}{s₁:Shared}{vs:List Value}{ns:List Int}
  (KX:K.In s₁.heap) (hns:s₁.heap.Ns mainGlobals mg) (hb:s₁.heap.Ns builtinsNs mb) (hbb:∀x:Str,x ≠ "__name__" -> mb x=bootBuiltins x) (hlim:s₁.heap.NoLimit) (hg:s₁.gens=#[])
  (ha:s₁.heap.get? a=some { cls:=.type "list",data:=.seq vs.toArray }) (hi:IntsAre vs ns) (hl:ns.length<=sizeLine) (hr:Room k callerA)
  (F:∀base:Heap,K.In base->base.Ns mainGlobals mg->FnOk P w K mg base CX k fa fd [x] sp) (hbind:∀(s:Shared) (u:Value),BindsTo s fd ⟨[u],[]⟩ [(x,u)])
  (hsp:∀H:Hp,YV H->SqL K H a (ns.map V.int)->sp [.ref a] H (λv _=>v=.bl true) λ_ _ _=>False)
  (hCX:∀H e s',CX [] H s₁ (λ_ _ _=>False) e s'->False) :
  codeAny (model P w) callerA (.call (.ref fa) ⟨[.ref a],[]⟩) (λr s'=>r=.ok (.ret (.bool true))/\OldK s₁.heap s'.heap/\s'.os=s₁.os/\AllBare s'.gens) s₁:=by
 have rv:=Ls hi;have lenV:=hi.length;have core:∀H:Hp,YV H->SqL K H a (ns.map V.int)->HOk P w H s₁.heap->(∀b,H b≠none->b=a)->(H a≠none->K.lookup a=none)->
   codeAny (model P w) callerA (.call (.ref fa) ⟨[.ref a],[]⟩) (λr s'=>r=.ok (.ret (.bool true))/\OldK s₁.heap s'.heap/\s'.os=s₁.os/\AllBare s'.gens) s₁:=by
  intro H hO hS hok hA hK;have base_of:∀{b:Addr} {o:Obj},s₁.heap.get? b=some o->H b=none->(NS s₁.heap H).get? b=some o:=λe n=>V4 e n;have noA:∀{b:Addr} {o:Obj} {es:Array DictEntry} {ep:Nat},s₁.heap.get? b=some o->o.data=.dict es ep->H b=none:=λ{b o es ep} e d=>by
   cases q:H b with
   |none=>rfl
   |some u=>
    have e':b=a:=hA b (by rw[q];simp);subst e';rw[ha] at e;cases e;have d':Data.seq vs.toArray _=Data.dict es ep:=d;cases d'
  have nsK:∀{b:Addr} {m:Str->Option Value},s₁.heap.Ns b m->(NS s₁.heap H).Ns b m:=λ{b m} ⟨o,es,ep,e,d,r⟩=>⟨o,es,ep,base_of e (noA e d),d,r⟩;have hKb:K.In (NS s₁.heap H):=λb o e=>base_of (KX b o e) (by
   cases q:H b with
   |none=>rfl
   |some u=>
    have e':b=a:=hA b (by rw[q];simp);subst e';rw[hK (by rw[q];simp)] at e;cases e)
  have hM:Mod K mg (NS s₁.heap H):=⟨hKb,nsK hns,⟨mb,nsK hb,hbb⟩,let ⟨mc,h1,h2⟩:=hlim;⟨mc,nsK h1,h2⟩⟩;have e0:Env0 P w K mg (NS s₁.heap H) callerA [] s₁ H:=⟨rfl,hM,λb o e=>Xn e,Nat.le_of_eq (TF _ _),trivial,λb hb=>absurd (show b∈([]:List Addr) from hb) (by simp),hok,.of_eq hg⟩;refine codeAny_mono ((F _ hKb (nsK hns)).run callerA [] s₁ H ⟨[.ref a],[]⟩ [.ref a] [.ref a] _ _ hr e0 (hbind s₁ (.ref a)) (.cons rfl .nil) (hsp H hO hS)) λr s' h=>?_;cases r with
  |error e=>exact(hCX H e s' h).elim
  |ok fl=>
   cases fl with
   |next=>exact False.elim h
   |brk=>exact False.elim h
   |cont=>exact False.elim h
   |ret u=>
    obtain⟨v,H',os,bare,un,hok',r',q⟩:=h;have q':v=.bl true:=q;subst q';obtain rfl:u=Value.bool true:=r';refine⟨rfl,OldK.of_keep λb o e=>?_,os,bare⟩;cases q:H b with
    |none=>exact un.keep b o e q (by intro z;exact absurd (show b∈([]:List Addr) from z) (by simp)) (by simp)
    |some u=>
     rcases hO b with z|⟨ob,xs,z⟩
     ·rw[q] at z;cases z
     ·have z2:=un.frzs b ob _ z;obtain⟨e1,_⟩:=hok b _ z;obtain⟨e2,_⟩:=hok' b _ z2;rw[e] at e1;cases e1;exact e2
 cases hk:K.lookup a with
 |some o=>
  have e:=KX a o hk;rw[ha] at e;cases e;refine core (λ_=>none) (λ_=>.inl rfl) (.inr ⟨_,vs.toArray,_,hk,rfl,rfl,rfl,by rw[List.size_toArray,lenV];exact hl,by simpa using rv⟩) (λb u z=>by have z':(none:Option HO)=some u:=z;cases z') (λb z=>absurd rfl z) λz=>absurd rfl z
 |none=>
  refine core (λb=>if b=a then some (.frz { cls:=.type "list",data:=.seq vs.toArray } (.lst (ns.map V.int))) else none) (λb=>?_) (.inl (.inr ⟨{ cls:=.type "list",data:=.seq vs.toArray },if_pos rfl⟩)) (λb u z=>?_) (λb z=>?_) λ_=>hk
  ·by_cases hb:b=a
   ·exact .inr ⟨_,_,if_pos hb⟩
   ·exact .inl (if_neg hb)
  ·by_cases hb:b=a
   ·have z':=(if_pos hb).symm.trans z;cases z';subst hb;exact⟨ha,by rw[AAF];exact hl,vs,_,rv,ha⟩
   ·have z':=(if_neg hb).symm.trans z;cases z'
  ·by_cases hb:b=a
   ·exact hb
   ·exact absurd (if_neg hb) z
theorem Wv{l:PySem.W.OpenLaw}{n k:Nat}{q:Program}{loose:List Str}{XP:(Str->Option Value)->Heap->Prop}{YP:World->Heap->Prop}{d:DefRec}{K:Params->PySem.W.Frag}{CX:World->CXT}{sp:World->Sp}{x:Str}
  (hn:l.most=some n) (hn2:n<=sizeLine) (hdf:d.params.defaults=[]) (hr:Room k callerA)
  (hY:∀(w:World) (h:Heap),YP w h->(K w.params).In h)
  (F:∀(w:World) (mg:Str->Option Value) (fa:Addr) (h:Heap),(K w.params).In h->h.Ns mainGlobals mg->mg d.name=some (.ref fa)->
   ∃fd:FuncData,(∀(s:Shared) (u:Value),BindsTo s fd ⟨[u],[]⟩ [(x,u)]) /\
    ∀base:Heap,(K w.params).In base->base.Ns mainGlobals mg->FnOk l.prog w (K w.params) mg base (CX w) k fa fd [x] (sp w))
  (hsp:∀(w:World) (H:Hp) (a:Addr) (ns:List Int),ns.length<=n->YV H->SqL (K w.params) H a (ns.map V.int)->sp w [.ref a] H (λv _=>v=.bl true) λ_ _ _=>False)
  (hCX:∀(w:World) (H:Hp) (s:Shared) (e:Value) (s':Shared),CX w [] H s (λ_ _ _=>False) e s'->False) :
  PySem.W.WalkO q loose XP YP l.row.toRowW d [] (λf vs=>PySem.call f vs):=by
 refine Att.O3 hn hdf λw s₀ s₁ mg mb fa o pm cd doc a vs ns G Y ho hd hcd hmg hobj hints hlen hg=>?_;have KX:=hY w _ Y;obtain⟨fd,hb,hF⟩:=F w mg fa _ KX G.T.g hmg;exact Vl KX G.T.g G.T.b G.T.builtins G.T.nolimit hg hobj hints (AAq hlen hn2) hr hF hb (λH hO hS=>hsp w H a ns hlen hO hS) λH e s'=>hCX w H s₁ e s'
noncomputable def F6(s:Stmt):Arguments:=match s with
 | .FunctionDef _ a _ _ _ _ _ _ _ _=>a
 |_=>{ posonlyargs:=[],args:=[],vararg:=none,kwonlyargs:=[],kw_defaults:=[],kwarg:=none,defaults:=[] }
noncomputable def CU(s:Stmt):List Stmt:=match s with
 | .FunctionDef _ _ b _ _ _ _ _ _ _=>b
 |_=>[]
noncomputable def AN(s:Stmt):Scope:=match s with
 | .FunctionDef _ _ _ _ _ _ sc _ _ _=>sc
 |_=>{ kind:=.function,names:=[],isGenerator:=false,isCoroutine:=false }
noncomputable abbrev CX0:CXT:=λ_ _ _ _ _ _=>False
noncomputable abbrev E0:XK:=λ_ _ _=>False
theorem Q9:IB CX0 X E0:=λ_ _ _ _ _ _ _ h=>h.elim
structure Fun(K:PySem.W.Frag)(x qual:Str)(st:Stmt)(f:Addr)(fd:FuncData):Prop where
 ex:∃(oc:Value) (od:Option Addr) (kV doc pm:Value) (an:Option Addr) (cdv ct:Value) (osl:Array (Option Value)),
  fd=PySem.W.fnOf x qual (F6 st) (CU st) (AN st) .none kV doc pm an cdv ct/\K.lookup f=some ⟨oc,od,.func fd,osl⟩/\PySem.W.codeIn K cdv qual=true
 kp:PySem.W.keepIn K (.ref f)=true
section
variable{P:Program}{w:World}{K:PySem.W.Frag}{mg:Str->Option Value}{base:Heap}
theorem Fun.ok{x qual:Str}{st:Stmt}{f:Addr}{fd:FuncData}{N ps:List Str}{k:Nat}{sp:Sp}(F:Fun K x qual st f fd)(S:Ac N ps (AN st))(len:∀vs H Q E,sp vs H Q E->vs.length=ps.length)
  (hbody:∀(cdv:Value) (A:Around) (outer:List Env) (s:Shared) (H:Hp) (vs:List V) (Q:VK) (E:XK),Room k (A.deeper (envOfC qual (AN st) s.heap.objs.size f cdv))->sp vs H Q E->
   ∃t,PSs (Ip CX0 P w K mg base N qual (AN st) f cdv A outer s H E).nox (CU st) t/\t { nx:=λ_ H'=>Q .non H',rt:=Q } (start N vs) H):FnOk P w K mg base CX0 (k+1) f fd ps sp:=by
 obtain⟨oc,od,kV,doc,pm,an,cdv,ct,osl,rfl,lk,hcd⟩:=F.ex;refine dM lk hcd S len λA outer s H vs Q E hr hsp=>?_;obtain⟨t,h,q⟩:=hbody cdv A outer s H vs Q E hr hsp;exact⟨t,h.nox,q⟩
theorem Fun.binds{x qual:Str}{st:Stmt}{f:Addr}{fd:FuncData}{ps:List Str}(F:Fun K x qual st f fd)
  (h:∀(kV doc pm:Value) (an:Option Addr) (cdv ct:Value) (us:List Value),us.length=ps.length->bindArgs (PySem.W.fnOf x qual (F6 st) (CU st) (AN st) .none kV doc pm an cdv ct) ⟨us,[]⟩=pure (ps.zip us)):Binds K fd ps []:=by
 obtain⟨oc,od,kV,doc,pm,an,cdv,ct,osl,rfl,lk,hcd⟩:=F.ex;exact .all (h kV doc pm an cdv ct)
theorem P7{x qual:Str}{st:Stmt}{f:Addr}{oc:Value}{od an:Option Addr}{osl:Array (Option Value)}{kV doc pm cdv ct:Value}(l:K.lookup f=some ⟨oc,od,.func (PySem.W.fnOf x qual (F6 st) (CU st) (AN st) .none kV doc pm an cdv ct),osl⟩)
  (c:PySem.W.codeIn K cdv qual=true) (k:PySem.W.keepIn K (.ref f)=true):Fun K x qual st f (PySem.W.fnOf x qual (F6 st) (CU st) (AN st) .none kV doc pm an cdv ct):=⟨⟨oc,od,kV,doc,pm,an,cdv,ct,osl,rfl,l,c⟩,k⟩
end
theorem V3(hr:Room k A):A.units+1<cLine:=Nat.lt_of_le_of_lt (Nat.add_le_add_left (by decide:1<=64) _) hr.units
theorem SR(h:n<=1000):n<sizeLine:=Nat.lt_of_le_of_lt h (by decide)
section
variable{κ:Type}[DecidableEq κ]
end
noncomputable def FP(env:Env):List (Str×NameKind)->List (Str×Addr)->List (Str×Addr)
 |[],cs=>cs
 |(n,k)::r,cs=>FP env r (if k==.free then (match env.cells.lookup n with|some c=>(n,c)::cs|none=>cs) else cs)
theorem EN:∀(l:List (Str×NameKind)) (cs:List (Str×Addr)),(∀x∈l,x.2=.free->∃c,env.cells.lookup x.1=some c)->
  (forIn l cs λ(x:Str×NameKind) (r:List (Str×Addr))=>(if (x.2==NameKind.free)=true then (do let a ←cellOf env x.1;pure (ForInStep.yield ((x.1,a)::r))) else pure (ForInStep.yield r):Sem (ForInStep (List (Str×Addr)))))=pure (FP env l cs)
 |[],cs,_=>by rw[List.forIn_nil];rfl
 |(n,k)::r,cs,h=>by
  have hr:∀x∈r,x.2=.free->∃c,env.cells.lookup x.1=some c:=λx hx=>h x (AAQ _ hx);rw[List.forIn_cons];by_cases hk:k=.free
  ·subst hk;obtain⟨c,hc⟩:=h (n,.free) AAP rfl;have e:cellOf env n=pure c:=by unfold cellOf;rw[hc]
   dsimp only;rw[if_pos (by decide),e,pure_bind,pure_bind];dsimp only;rw[EN r _ hr];show _=pure (FP env r (if (NameKind.free==NameKind.free)=true then (match env.cells.lookup n with|some c=>(n,c)::cs|none=>cs) else cs));rw[if_pos (by decide),hc]
  ·have hb:¬(k==NameKind.free)=true:=by simpa using hk
   dsimp only;rw[if_neg hb,pure_bind];dsimp only;rw[EN r _ hr];show _=pure (FP env r (if (k==NameKind.free)=true then (match env.cells.lookup n with|some c=>(n,c)::cs|none=>cs) else cs));rw[if_neg hb]
theorem D4(h:∀x∈scope.names,x.2=.free->∃c,env.cells.lookup x.1=some c):closureFor scope env=pure (FP env scope.names []):=by
 have e:=EN (env:=env) scope.names [] h;unfold closureFor;dsimp only;rw[←bind_pure (pure (FP env scope.names [])),←e]
theorem Fe:∀(l:List (Str×NameKind)) (cs:List (Str×Addr)),(∀x c,cs.lookup x=some c->env.cells.lookup x=some c)->∀x c,(FP env l cs).lookup x=some c->env.cells.lookup x=some c
 |[],cs,h=>h
 |(n,k)::r,cs,h=>by
  refine Fe r _ ?_;intro x c;by_cases hk:(k==NameKind.free)=true
  ·rw[if_pos hk];cases hl:env.cells.lookup n with
   |none=>exact h x c
   |some d=>
    intro q;by_cases hx:x=n
    ·subst hx;rw[List.lookup_cons_self] at q;rw[hl];exact q
    ·have hb:(x==n)=false:=AAd.mpr hx;simp only[List.lookup_cons,hb] at q;exact h x c q
  ·rw[if_neg hk];exact h x c
theorem LO:∀(l:List (Str×NameKind)) (cs:List (Str×Addr)) (x:Str),(cs.lookup x).isSome=true->((FP env l cs).lookup x).isSome=true
 |[],cs,x,h=>h
 |(n,k)::r,cs,x,h=>by
  refine LO r _ x ?_;by_cases hk:(k==NameKind.free)=true
  ·rw[if_pos hk];cases hl:env.cells.lookup n with
   |none=>exact h
   |some d=>
    by_cases hx:(x==n)=true
    ·simp only[List.lookup_cons,hx,Option.isSome_some]
    ·have hb:(x==n)=false:=by simpa using hx
     simp only[List.lookup_cons,hb];exact h
  ·rw[if_neg hk];exact h
theorem Ot:∀(l:List (Str×NameKind)) (cs:List (Str×Addr)) (x:Str) (c:Addr),(x,NameKind.free)∈l->env.cells.lookup x=some c->((FP env l cs).lookup x).isSome=true
 |[],cs,x,c,h,_=>by simp at h
 |(n,k)::r,cs,x,c,h,hc=>by
  rcases AAI.mp h with e|e
  ·obtain⟨rfl,rfl⟩:=Prod.mk.inj e;refine LO r _ _ ?_;rw[if_pos (by decide),hc];simp only[List.lookup_cons_self,Option.isSome_some]
  ·exact Ot r _ x c e hc
theorem MX(h:(x,NameKind.free)∈l)(hc:env.cells.lookup x=some c):(FP env l []).lookup x=some c:=by
 obtain⟨d,hd⟩:=Option.isSome_iff_exists.mp (Ot l [] x c h hc);have:=Fe l [] (λ_ _ z=>by simp at z) x d hd;rw[hc] at this;cases this;exact hd
noncomputable def DO:List (Str×NameKind)->List Str
 |[]=>[]
 |(n,.free)::r=>n::DO r
 |_::r=>DO r
theorem Hm:∀{l:List (Str×NameKind)},x∈DO l->(x,NameKind.free)∈l
 |[],h=>by simp[DO] at h
 |(n,k)::r,h=>by
  cases k<;>first
   |(rcases AAI.mp (show x∈n::DO r from h) with e|e;{subst e;exact AAP};{exact AAQ _ (Hm e)})
   |exact AAQ _ (Hm (show x∈DO r from h))
theorem MN:∀{l:List (Str×NameKind)},(x,NameKind.free)∈l->x∈DO l
 |[],h=>by simp at h
 |(n,k)::r,h=>by
  rcases AAI.mp h with e|e
  ·cases e;exact AAP
  ·have ih:=MN e;cases k<;>first
    |exact AAQ _ ih
    |exact ih
theorem Gj(f:Str×NameKind->Str×NameKind)(hf:∀p,f p=p∨p.2=.free/\f p=(p.1,.cell)):∀(l:List (Str×NameKind)) (k:NameKind),(l.map f).lookup x=some k->l.lookup x=some k∨l.lookup x=some .free/\k=.cell
 |[],_,h=>nomatch h
 |(y,j)::l,k,h=>by
  have rest:=Gj (x:=x) f hf l k;rw[AAW] at h;rcases hf (y,j) with e|⟨ej,e⟩<;>rw[e] at h<;>cases he:x==y<;>simp only[List.lookup_cons,he] at h ⊢
  ·exact rest h
  ·exact .inl h
  ·exact rest h
  ·cases h;cases (show j=NameKind.free from ej);exact .inr ⟨rfl,rfl⟩
theorem Ek(h:(relabel scope env).names.lookup x=some k):scope.names.lookup x=some k∨scope.names.lookup x=some .free/\k=.cell:=by
 unfold relabel at h;refine Gj _ (λp=>?_) _ _ h;obtain⟨n,j⟩:=p;dsimp only;split
 ·rename_i hc;refine .inr ⟨?_,rfl⟩;simp only[Bool.and_eq_true,beq_iff_eq] at hc;exact hc.1.1
 ·exact .inl rfl
noncomputable def L8(ix:List Nat)(σ:St):St:=ix.map λj=>(σ[j]?).getD none
noncomputable def cxB(X:Cx)(scope:Scope)(tgs:List Str)(fp:List Addr)(C:Addr)(s:Shared)(H:Hp):Cx:=
 { X with N:=tgs++DO scope.names,s₀:=s,H₀:=H,env:=compEnvC scope (FP X.env scope.names []) C X.env,outer:=X.stack,ex:=fp,fn:=λ_=>false,pn:=[],xe:=λ_ _=>False }
noncomputable def bO{α:Type}(P:α->Prop):List α->Prop
 |[]=>True
 |x::r=>P x/\bO P r
theorem LU:∀{l:List α},bO P l->∀x∈l,P x
 |[],_,_,h=>by simp at h
 |_::_,h,x,hx=>by
  rcases AAI.mp hx with e|e
  ·subst e;exact h.1
  ·exact LU h.2 x e
structure BScope(X:Cx)(scope:Scope)(tgs:List Str)(ix:List Nat):Prop where
 kind:scope.kind=.function
 nocell:∀y∈scope.names,y.2≠.cell
 loc:∀y∈scope.names,y.2=.local->scope.names.lookup y.1=some .local
 fre:bO (λx=>X.env.kindOf x=some .cell∨X.env.kindOf x=some .free) (DO scope.names)
 ixs:(DO scope.names).map some=ix.map λj=>X.N[j]?
 ndl:∀x∈DO scope.names,scope.names.lookup x=some .free
section
variable{X:Cx}{scope:Scope}{tgs:List Str}{ix:List Nat}
theorem BScope.cells(S:BScope X scope tgs ix)(ok:X.Ok):∀x∈scope.names,x.2=.free->∃c,X.env.cells.lookup x.1=some c:=λx hx hk=>by
 obtain⟨n,k⟩:=x;subst hk;exact ok.has n (LU S.fre n (MN hx))
theorem Inv.cellLt(I:Inv X pins σ H s)(e:X.env.cells.lookup x=some c):c<s.heap.objs.size:=by
 obtain⟨v,q⟩:=I.cell x c e;exact q.lt
theorem Inv.track(I:Inv X pins σ H s)(f:GB X pins H D)(new:ObjOk X.prog X.w (upd H D o) s.heap D o):Inv X pins σ (upd H D o) s:=by
 obtain⟨f0,f1,f2,f3,f4,f5⟩:=f;have nD:∀b u,H b=some u->b≠D:=λb u e z=>by rw[z,f0] at e;cases e
 have:=I.step (h':=s.heap) (H':=upd H D o) (g':=s.gens) (t':=s.toks) (d':=s.drawn) (ch:=[D]) (λb hb=>?_) (λb u _ _ _ e _=>e) (λb u _ _ _ e _=>⟨u.slots,e⟩) (λb u hb e n=>?_) (λb u _ e=>⟨u,e⟩)
  (λb xs e=>?_) (λb u v e=>?_) (λb ps e=>?_) (λm hm=>hm) (λb u e=>?_) I.bare
 ·exact this
 ·have e:b=D:=by simpa using hb
  subst e;exact⟨f3,f1,f4,f5⟩
 ·rw[BG (λz=>hb (by simp[z]))];exact n
 ·rw[BG (nD b _ e)];exact e
 ·rw[BG (nD b _ e)];exact e
 ·exact⟨#[],by rw[BG (nD b _ e),e];simp⟩
 ·by_cases hb:b=D
  ·subst hb;rw[Bt] at e;cases e;exact new
  ·rw[BG hb] at e;exact(I.hok b u e).stay (λ_ _ _ q=>q) (λc q=>by rw[BG (nD c _ q)];exact q) λc xs q=>by rw[BG (nD c _ q)];exact q
theorem QE(S:BScope X scope tgs ix)(I:Inv X pins σ H s)(hf:∀b∈fp,GB X pins H b)(hfo:∀b∈fp,b<s.heap.objs.size)(hC:s.heap.objs.size<=C):
  (cxB X scope tgs fp C s H).Ok:=by
 have sub:∀x c,(FP X.env scope.names []).lookup x=some c->X.env.cells.lookup x=some c:=Fe scope.names [] (λ_ _ z=>by simp at z);refine⟨I.ok.mod,S.kind,I.ok.glob,I.ok.blt,hC,λx y c h1 h2=>I.ok.inj x y c (sub x c h1) (sub y c h2),λx hx=>?_,λx c h=>absurd h (by simp[cxB]),I.ok.hd,I.ok.frames,.inl rfl,λb hb=>⟨?_,λx c e=>?_⟩,λb o e=>I.bs b o e,
  AAq I.ok.bsz I.sz,λb o e hb=>?_,λb hb hz=>?_,I.stack,I.stkFree⟩
 ·have hx':(relabel scope X.env).names.lookup x=some .cell∨(relabel scope X.env).names.lookup x=some .free:=hx;have hm:(x,NameKind.free)∈scope.names:=by
   rcases hx' with h|h
   ·rcases Ek h with q|q
    ·exact absurd rfl (S.nocell _ (PySem.mem_of_lookup q))
    ·exact PySem.mem_of_lookup q.1
   ·rcases Ek h with q|q
    ·exact PySem.mem_of_lookup q
    ·exact absurd q.2 (by decide)
  obtain⟨c,hc⟩:=S.cells I.ok _ hm rfl;exact⟨c,MX hm hc⟩
 ·exact λz=>absurd (hfo b hb) (by rw[z];exact Nat.not_lt.mpr hC)
 ·exact(hf b hb).2.2.2.2.1 x c (sub x c e)
 ·obtain⟨f0,f1,f2,f3,f4,f5⟩:=hf b hb;rcases f3 with z|z
  ·exact I.ok.noex b o e z
  ·exact absurd (Heap.lt_size (I.ok.bs b o e).1) (Nat.not_lt.mpr z)
 ·obtain⟨f0,f1,f2,f3,f4,f5⟩:=hf b hb;rcases AAI.mp (I.stkSub b hz) with z|z
  ·exact f1 z
  ·exact f2 z
end
section
variable{X:Cx}{scope:Scope}{tgs:List Str}{ix:List Nat}
noncomputable abbrev DL(tgs:List Str)(ix:List Nat)(σ:St):St:=List.replicate tgs.length none++L8 ix σ
theorem Kc(h:(DL tgs ix σ)[k]?=some (some v)):tgs.length<=k/\∃j,ix[k-tgs.length]?=some j/\σ[j]?=some (some v):=by
 have hk:tgs.length<=k:=by
  rcases Nat.lt_or_ge k tgs.length with z|z
  ·rw[AAS (by simpa using z),List.getElem?_replicate,if_pos z] at h;cases h
  ·exact z
 refine⟨hk,?_⟩;rw[AAR (by simpa using hk),AAl] at h;unfold L8 at h;rw[AAV] at h;cases e:ix[k-tgs.length]? with
 |none=>rw[e] at h;cases h
 |some j=>
  rw[e] at h;refine⟨j,rfl,?_⟩;have h':(σ[j]?).getD none=some v:=Option.some.inj h;cases q:σ[j]? with
  |none=>rw[q] at h';cases h'
  |some o=>
   rw[q] at h';have h'':o=some v:=h';rw[h'']
theorem LF(S:BScope X scope tgs ix)(I:Inv X pins σ H s)(hf:∀b∈fp,GB X pins H b)(hfo:∀b∈fp,b<s.heap.objs.size)
  (hC:s.heap.objs.size<=C) (hD:s.heap.objs.size<=D) (hDC:D≠C) {m:Str->Option Value} (hn:s4.heap.Ns C m) (hk:∀b u,s.heap.get? b=some u->s4.heap.get? b=some u) (hos:s4.os=s.os) (hg:s4.gens=s.gens)
  (hDo:s4.heap.get? D=some o) (hcell:∀v,o.data≠.cell v):Inv (cxB X scope tgs fp C s H) [(D,o)] (DL tgs ix σ) H s4:=by
 have ok:=QE (tgs:=tgs) (ix:=ix) (C:=C) S I hf hfo hC;have sub:∀x c,(FP X.env scope.names []).lookup x=some c->X.env.cells.lookup x=some c:=Fe scope.names [] (λ_ _ z=>by simp at z);refine⟨ok,hos,by rw[hg];exact I.bare,Un.kept hk,⟨m,hn,λk x v h1 h2 h3=>?_⟩,λx c e=>?_,I.hok.fresh hC,λx c e=>I.freeC x c (sub x c e),λp hp=>?_,I.hok.kept hk,?_⟩
 ·obtain⟨hkl,j,hj,hσ⟩:=Kc h2;have h1':(DO scope.names)[k-tgs.length]?=some x:=by
   have:(tgs++DO scope.names)[k]?=some x:=h1
   rwa [AAR hkl] at this
  have hx:x∈DO scope.names:=AAU h1';have hXN:X.N[j]?=some x:=by
   have e:=congrArg (λl=>l[k-tgs.length]?) S.ixs;simp only[AAV,h1',hj,Option.map_some] at e;exact(Option.some.inj e).symm
  have kx:=LU S.fre x hx;obtain⟨m0,hn0,hl⟩:=I.loc;obtain⟨u,r,l⟩:=hl j x v hXN hσ (by rcases kx with z|z;exact .inr (.inl z);exact .inr (.inr z));refine⟨u,r,?_⟩;rcases l with ⟨z,_⟩|⟨_,c,hc,q⟩
  ·rcases kx with y|y<;>rw[z] at y<;>cases y
  ·refine .inr ⟨?_,c,MX (Hm hx) hc,?_⟩
   ·have h3':(relabel scope X.env).names.lookup x=some .local∨(relabel scope X.env).names.lookup x=some .cell∨(relabel scope X.env).names.lookup x=some .free:=h3;rcases h3' with z|z|z
    ·exfalso;rcases Ek z with w|w
     ·have lk:scope.names.lookup x=some .local:=w;have:=S.ndl x hx;rw[lk] at this;cases this
     ·exact absurd w.2 (by decide)
    ·exact .inl z
    ·exact .inr z
   ·obtain⟨oc,hoc,hd⟩:=q;exact⟨oc,hk c oc hoc,hd⟩
 ·obtain⟨v,oc,hoc,hd⟩:=I.cell x c (sub x c e);exact⟨v,oc,hk c oc hoc,hd⟩
 ·have e:p=(D,o):=by simpa[cxB] using hp
  subst e;refine⟨hDo,I.hok.fresh hD,hDC,λhz=>?_,hcell⟩;have hz':D∈frs X.stack:=hz;rcases AAI.mp (I.stkSub D hz') with z|z
  ·exact absurd I.lt (by rw[←z];exact Nat.not_lt.mpr hD)
  ·exact I.nofs hD z
 ·show (List.replicate tgs.length none++L8 ix σ).length=(tgs++DO scope.names).length;have e:=congrArg List.length S.ixs;simp only[AAF] at e;rw[AAG,AAG,AAl,e];unfold L8;rw[AAF]
def Li(X:Cx)(ifs:List Expr)(tc:TT):Prop:=
 ∀(pins:List (Addr×Obj)) (s:Shared) (σ:St) (H:Hp) (Q:Bool->Hp->Prop),Inv X pins σ H s->tc σ H Q->
  wpAny (model X.prog X.w) X.A (forIn ifs true λc r=>if r=true then do let ok ←isTrue c X.env (eval c X.env);pure (ForInStep.yield ok) else pure (ForInStep.yield r)) (TP X pins σ Q) X.xe s
noncomputable def bW:TT:=λ_ H Q=>Q true H
theorem VF:Li X [] bW:=λpins s σ H Q I h=>wpAny_tests_nil ⟨H,I,h⟩
theorem VE(h:PT X c tc):Li X [c] tc:=λpins s σ H Q I hw=>wpAny_tests_one (h pins s σ H Q I hw)
def GK(n:Nat)(g:TG):Prop:=∀x σ H Q,g x σ H Q->g x σ H λσ2 H2=>Q σ2 H2/\σ2.length=σ.length/\σ2.drop n=σ.drop n
theorem NW(h:i<n):GK n (FE i):=λx σ H Q q=>⟨q,by simp,by rw[List.drop_set_of_lt h]⟩
def dl(tgs:List Str)(ix:List Nat)(g:TG)(tc:TT)(te:TE)(σ:St)(Q:VK)(J:It)(H1:Hp):Prop:=∃W:Nat->Nat->List V->Hp->Prop,(∃m,W 0 m [] H1)/\∀i m ys H,W i m ys H->
 (J.stop i H/\ys.length<=sizeLine/\∀p,H p=none->Q (.ref p) (upd H p (.lst ys))) ∨
 (J.go i H/\ys.length<sizeLine/\∃N:List V->Hp->Prop,(∀ys' H',N ys' H'->∃m',m'<m/\W (i+1) m' ys' H')/\∀x H',J.yld i H x H'->g x (DL tgs ix σ) H' λσ2 H2=>tc σ2 H2 λb H3=>
  if b=true then te σ2 H3 λv H4=>N (ys++[v]) H4 else N ys H3)
noncomputable def Ka(tgs:List Str)(ix:List Nat)(wi:TI)(g:TG)(tc:TT)(te:TE):TE:=λσ H Q=>wi σ H λJ H1=>dl tgs ix g tc te σ Q J H1
theorem Ja(h:wpAny M A t Q (λ_ _=>False) s)(hQ:∀a s,Q a s->Q' a s):wpAny M A t Q' E s:=AAh h hQ λ_ _ x=>x.elim
theorem Sf(hu:u=pure ())(h:wpAny M A u P E s)(k:∀s',P () s'->wpAny M A t Q E s'):wpAny M A t Q E s:=by
 subst hu;have z:wpAny M A ((pure ():Sem Unit) >>= λ_=>t) Q E s:=AAA (AAh h (λ_ s' p=>k s' p) λ_ _ x=>x);exact z
end
section
variable{X:Cx}{scope:Scope}{tgs:List Str}{ix:List Nat}
noncomputable abbrev GI(its:List Value)(k:Nat):Obj:={ cls:=.type "list",data:=.seq its.toArray k }
theorem Qc(I:Inv (cxB X scope tgs fp C s0 H0) pins σ6 H s)(l6:σ6.length=(DL tgs ix σ).length)
  (d6:σ6.drop tgs.length=(DL tgs ix σ).drop tgs.length):Inv (cxB X scope tgs fp C s0 H0) pins (DL tgs ix σ) H s:=by
 refine I.weak l6.symm λk v e=>?_;obtain⟨hk,_⟩:=Kc e;have e1:σ6[k]?=(σ6.drop tgs.length)[k-tgs.length]?:=by rw[List.getElem?_drop];congr 1;omega
 have e2:(DL tgs ix σ)[k]?=((DL tgs ix σ).drop tgs.length)[k-tgs.length]?:=by rw[List.getElem?_drop];congr 1;omega
 rw[e1,d6,←e2];exact e
theorem LN{elt tg iter:Expr}{ifs:List Expr}{pos:Pos}{g:TG}{tc:TT}{te:TE}{pins:List (Addr×Obj)}{fp:List Addr}{tn:Nat->Heap->Prop}{J:It}{Q:VK}
  (S:BScope X scope tgs ix) (ht:∀o v,letOwnedTupleGo tg o v=pure ()) (hc:X.calm=true) (hg:∀fp C s H,PG (cxB X scope tgs fp C s H) tg g) (hgk:GK tgs.length g) (hi:∀fp C s H,Li (cxB X scope tgs fp C s H) ifs tc) (he:∀fp C s H,PE (cxB X scope tgs fp C s H) elt te)
  (I2:Inv X pins σ H2 s2) (T:Jd X.prog X.w X.K tg J fp it tn) (t0:tn 0 s2.heap) (hf:∀b∈fp,GB X pins H2 b)
  (W:Nat->Nat->List V->Hp->Prop) (w0:∃m,W 0 m [] H2)
  (turn:∀i m ys H,W i m ys H->(J.stop i H/\ys.length<=sizeLine/\∀p,H p=none->Q (.ref p) (upd H p (.lst ys))) ∨
   (J.go i H/\ys.length<sizeLine/\∃N:List V->Hp->Prop,(∀ys' H',N ys' H'->∃m',m'<m/\W (i+1) m' ys' H')/\∀x H',J.yld i H x H'->g x (DL tgs ix σ) H' λσ2 H2=>tc σ2 H2 λb H3=>
    if b=true then te σ2 H3 λv H4=>N (ys++[v]) H4 else N ys H3))
  {RR:Value->Addr->Result->Shared->Prop}
  (fin:∀(D C:Addr) (s':Shared) (H':Hp) (m:Str->Option Value),Inv X pins σ H' s'->Q (.ref D) H'->s'.heap.Ns C m->GB X pins H' C->RR (.ref D) C (.ok .next) s') :
  wpAny (model X.prog X.w) X.A (newList []) (λacc s₃=>wpAny (model X.prog X.w) X.A (newFunctionEnv scope X.env.globals (FP X.env scope.names []) [] X.env.qual none .none (some X.env)) (λcenv s₄=>
   codeAny (model X.prog X.w) X.A (.compStart (.ListComp elt [⟨tg,iter,ifs,0⟩] scope pos) 0 (.ref it) acc { cenv with scope:=relabel scope X.env }) (RR acc cenv.locals) s₄) X.xe s₃) X.xe s2:=by
 refine AAp (wpAny_newFunctionEnv S.nocell (by intro y hy;simp at hy) (λh₁ hns₁ hsb₁=>?_) S.kind);dsimp only at hns₁ hsb₁ ⊢;generalize hH2:s2.heap.push { cls:=.type "list",dict:=none,data:=.seq ([]:List Value).toArray }=G2 at hns₁ hsb₁ ⊢;have hC:G2.objs.size=s2.heap.objs.size+1:=by rw[←hH2,Heap.size_push]
 have hCle:s2.heap.objs.size<=G2.objs.size:=by rw[hC];exact Nat.le_succ _
 have hDC:s2.heap.objs.size≠G2.objs.size:=by rw[hC];exact AAc (Nat.lt_succ_self _)
 have below:∀b,b<s2.heap.objs.size->b≠G2.objs.size/\b≠s2.heap.objs.size:=λb hb=>⟨by rw[hC];exact AAc (AAg hb),AAc hb⟩;have old:∀b o,s2.heap.get? b=some o->h₁.get? b=some o:=λb o e=>hsb₁.extBut b o (below b (Heap.lt_size e)).1 (AAC _ (hH2 ▸ AAC _ e));have hacc:h₁.get? s2.heap.objs.size=some (GI [] 0):=hsb₁.extBut _ _ hDC (AAC _ (hH2 ▸ AAD _ rfl));have hfo:∀b∈fp,b<s2.heap.objs.size:=λb hb=>let ⟨o,e,_⟩:=T.obj 0 _ t0 b hb;Heap.lt_size e
 have ok:=QE (tgs:=tgs) (ix:=ix) (C:=G2.objs.size) S I2 hf hfo hCle;have sub:∀x c,(FP X.env scope.names []).lookup x=some c->X.env.cells.lookup x=some c:=Fe scope.names [] (λ_ _ z=>by simp at z);have nDfs:s2.heap.objs.size∉frs X.stack:=λhz=>by
  rcases AAI.mp (I2.stkSub _ hz) with z|z
  ·exact absurd I2.lt (by rw[←z];exact AAu _)
  ·exact I2.nofs (AAE _) z
 have nDcell:∀x c,(FP X.env scope.names []).lookup x=some c->c≠s2.heap.objs.size:=λx c e=>AAc (I2.cellLt (sub x c e));have ncell:∀(its:List Value) (k:Nat) (v:Option Value),(GI its k).data≠.cell v:=λits k v z=>by cases z
 have stat:∀{Hx:Hp} {o:Obj},(∀b∈fp,Hx b=none)->∀b∈fp,GB (cxB X scope tgs fp G2.objs.size s2 H2) [(s2.heap.objs.size,o)] Hx b:=λ{Hx o} hn b hb=>
  ⟨hn b hb,(ok.exf b hb).1,ok.exfs b hb,.inl hb,(ok.exf b hb).2,λp hp z=>by
   have e:p=(s2.heap.objs.size,o):=by simpa[cxB] using hp
   subst e;exact absurd (hfo b hb) (by rw[←z];exact AAu _)⟩
 have loop:∀s₃:Shared,s₃={ s2 with heap:=h₁,toks:=s2.toks+([]:List (Str×Value)).length }->
   codeAny (model X.prog X.w) X.A (.compLoop (.ListComp elt [⟨tg,iter,ifs,0⟩] scope pos) 0 (.ref it) (.ref s2.heap.objs.size) (compEnvC scope (FP X.env scope.names []) G2.objs.size X.env)) (RR (.ref s2.heap.objs.size) G2.objs.size) s₃:=by
  rintro s₃ rfl;obtain⟨m0,w0⟩:=w0;refine codeAny_compLoop_tests (λn s=>∃i ys its k H,Inv (cxB X scope tgs fp G2.objs.size s2 H2) [(s2.heap.objs.size,GI its k)] (DL tgs ix σ) H s/\tn i s.heap/\(∀b∈fp,H b=none)/\Vals ys its/\W i n ys H) ?_ m0
   ⟨0,[],[],0,H2,LF S I2 hf hfo hCle (AAE _) hDC hns₁ old rfl rfl hacc (ncell _ _),T.keep 0 _ _ t0 λb _ o e=>old b o e,λb hb=>(hf b hb).1,.nil,w0⟩ (ht _)
  rintro n s ⟨i,ys,its,k,H,I,st,fr,rv,w⟩;rcases turn i n ys H w with ⟨stop,hz,q⟩|⟨go,hz8,N,hN,step⟩
  ·refine thn (T.done (cxB X scope tgs fp G2.objs.size s2 H2) rfl rfl rfl hc i _ s _ H _ I (stat fr) st stop) λr s1 ⟨hr,I1⟩=>?_;subst hr;obtain⟨pe,pn,_⟩:=I1.pin (s2.heap.objs.size,GI its k) (AAZ _ (by simp));have J0:Inv X pins σ H s1:=I2.call' I1.os I1.base I1.hok I1.bare λb hb=>⟨(hf b hb).2.2.2.1,(hf b hb).2.1,(hf b hb).2.2.2.2.1,(hf b hb).2.2.2.2.2⟩;have J1:Inv X pins σ (upd H s2.heap.objs.size (.lst ys)) s1:=J0.track (I2.fpOk (AAE _) pn) ⟨hz,its,k,rv,pe⟩;obtain⟨m,hn,_⟩:=I1.loc;exact fin _ _ s1 _ m J1 (q _ pn) hn (I2.fpOk hCle (by rw[BG (Ne.symm hDC)];exact I1.free))
  ·refine thn (T.item (cxB X scope tgs fp G2.objs.size s2 H2) rfl rfl rfl hc i _ s _ H _ I (stat fr) st go) λr s1 ⟨u,hr,h1⟩=>?_;subst hr;refine Sf (ht _ _) h1 λs5 ⟨x,H5,I5,r5,y5,st5,fr5⟩=>?_;have I5':=I5.pinned (stat fr5) (T.obj _ _ st5);refine Ja (hg fp G2.objs.size s2 H2 _ s5 _ H5 x u _ I5' r5 (hgk _ _ _ _ (step x H5 y5))) λ_ s6 ⟨σ6,H6,I6,q6,l6,d6⟩=>?_;refine Ja (hi fp G2.objs.size s2 H2 _ s6 σ6 H6 _ I6 q6) λokb s7 ⟨H7,I7,q7⟩=>?_;cases okb with
   |false=>
    rw[if_neg AAf] at q7 ⊢;obtain⟨m',hm,w7⟩:=hN _ _ q7;refine⟨m',hm,i+1,ys,its,k,H7,Qc I7.unpinned l6 d6,T.keep _ _ _ st5 λb hb o e=>(I7.pin (b,o) (AAZ _ (AAZ _ (CM hb e)))).1,λb hb=>?_,rv,w7⟩;obtain⟨o,e,_⟩:=T.obj _ _ st5 b hb;exact(I7.pin (b,o) (AAZ _ (AAZ _ (CM hb e)))).2.1
   |true=>
    rw[if_pos rfl] at q7 ⊢;refine Ja (he fp G2.objs.size s2 H2 _ s7 σ6 H7 _ I7 q7) λxv s8 ⟨v,H8,I8,rv8,q8⟩=>?_;obtain⟨m',hm,w8⟩:=hN _ _ q8;obtain⟨pe,pn,_⟩:=I8.pin (s2.heap.objs.size,GI its k) (AAZ _ (AAa _ (by simp)));have hlen:=rv.length;refine call_meets PySem.F.slot_list_append ⟨_,pe,rfl⟩ PySem.F.entry_list_append (PySem.F.args_list_append_2 _ _) (PySem.list_append s2.heap.objs.size its.toArray k xv (by rw[List.size_toArray];omega)) ⟨pe,?_⟩;have hp:its.toArray.push xv=(its++[xv]).toArray:=by simp
    have q':∃k',(s8.heap.update s2.heap.objs.size (Obj.mapSeq (λa=>a.push xv))).get? s2.heap.objs.size=some (GI (its++[xv]) k'):=⟨_,by
     unfold GI;rw[←hp];exact PySem.IsL.update pe (λa=>a.push xv)⟩
    obtain⟨k',q'⟩:=q';have I9:Inv (cxB X scope tgs fp G2.objs.size s2 H2) [] σ6 H8 { s8 with heap:=s8.heap.update s2.heap.objs.size (Obj.mapSeq (λa=>a.push xv)) }:=
     (I8.pins_of (pins':=[]) (λp hp=>absurd hp (by simp))).turned (t':=s8.toks) (λb o hb e=>(Heap.get?_update_other s8.heap (Obj.mapSeq (λa=>a.push xv)) (Ne.symm hb)).trans e) pn hDC (.inr (AAE _)) nDcell (λp hp=>absurd hp (by simp[cxB]))
    have I10:Inv (cxB X scope tgs fp G2.objs.size s2 H2) [(s2.heap.objs.size,GI (its++[xv]) k')] σ6 H8 { s8 with heap:=s8.heap.update s2.heap.objs.size (Obj.mapSeq (λa=>a.push xv)) }:=
     I9.pins_of λp hp=>by
      have e:p=(s2.heap.objs.size,GI (its++[xv]) k'):=by simpa using hp
      subst e;exact⟨q',pn,hDC,nDfs,ncell _ _⟩
    refine⟨m',hm,i+1,ys++[v],its++[xv],k',H8,Qc I10 l6 d6,T.keep _ _ _ st5 λb hb o e=>?_,λb hb=>?_,rv.append (.cons rv8 .nil),w8⟩
    ·exact(Heap.get?_update_other s8.heap (Obj.mapSeq (λa=>a.push xv)) (Ne.symm (below b (hfo b hb)).2)).trans (I8.pin (b,o) (AAZ _ (AAZ _ (CM hb e)))).1
    ·obtain⟨o,e,_⟩:=T.obj _ _ st5 b hb;exact(I8.pin (b,o) (AAZ _ (AAZ _ (CM hb e)))).2.1
 exact codeAny_compStart_list (loop _ rfl) (T.self _ 0 _ _ _ (T.keep 0 _ _ t0 λb _ o e=>old b o e) (loop _ rfl))
theorem Q8{elt tg iter:Expr}{ifs:List Expr}{pos:Pos}{tc:TT}{te:TE}(S:BScope X scope tgs ix)(hc:X.calm=true)(hi:PI X tg iter wi)(hg:∀fp C s H,PG (cxB X scope tgs fp C s H) tg g)(hgk:GK tgs.length g)
  (hif:∀fp C s H,Li (cxB X scope tgs fp C s H) ifs tc) (he:∀fp C s H,PE (cxB X scope tgs fp C s H) elt te) (hs:∀x,foldedSetIterable iter X.env x=pure x:=by intro _;rfl) (ht:∀o v,letOwnedTupleGo tg o v=pure ():=by intro _ _;rfl) :
  PE X (.ListComp elt [⟨tg,iter,ifs,0⟩] scope pos) (Ka tgs ix wi g tc te):=by
 intro pins s σ H Q I h;rw[eval_ListComp];refine wpAny_comprehension_free (use:=none) rfl hs (D4 (S.cells I.ok)) S.kind S.loc ?_;show wpAny _ _ (eval iter X.env) _ _ s;refine thn (hi pins s σ H _ I h) λv s1 h1=>thn h1 λitv s2 h2=>?_;obtain⟨it,fp,tn,J,H2,e,I2,T,t0,f2,W,w0,turn⟩:=h2;subst e;refine LN (RR:=λacc C=>compPost (model X.prog X.w) X.A X.xe none (EP X pins σ Q) acc C) S ht hc hg hgk hif he I2 T t0 f2 W w0 turn ?_;intro D C s' H' m J1 q hn fC;obtain⟨f0,f1,f2,f3,f4,f5⟩:=fC;exact⟨m,hn,λh' sb=>⟨.ref D,H',J1.turned (t':=s'.toks) (λb o hb e=>(sb.2 b hb).trans e) f0 f1 f3 f4 f5,rfl,q⟩⟩
theorem Pj(hN:X.N.Nodup)(hiN:X.N[i]?=some y)(hy:X.env.scope.names.lookup y=some .local)
  (S:BScope X scope tgs ix) (hc:X.calm=true) (hi:PI X tg iter wi) (hg:∀fp C s H,PG (cxB X scope tgs fp C s H) tg g) (hgk:GK tgs.length g)
  (hif:∀fp C s H,Li (cxB X scope tgs fp C s H) ifs tc) (he:∀fp C s H,PE (cxB X scope tgs fp C s H) elt te)
  (hsw:swapsWith (.ListComp elt [⟨tg,iter,ifs,0⟩] scope pos) (some (.Name y py)) spos.line X.env=pure true:=by rfl) (hs:∀x,foldedSetIterable iter X.env x=pure x:=by intro _;rfl) (ht:∀o v,letOwnedTupleGo tg o v=pure ():=by intro _ _;rfl) :
  PS X (.Assign [.Name y py] (.ListComp elt [⟨tg,iter,ifs,0⟩] scope pos) spos) (UZ (Ka tgs ix wi g tc te) (FE i)):=by
 intro pins s σ H D0 I h;rw[exec_Assign_Name_used _ _ _ _ hsw];refine AAA (wpAny_standAt (AAA ?_));show wpAny _ X.A (do let _ ←comprehension (.ListComp elt [⟨tg,iter,ifs,0⟩] scope pos) scope X.env _ (newList []) false (eval iter X.env) (some (assign (.Name y py) X.env))) _ _ s;refine AAA (AAh (wpAny_comprehension_free (use:=some (assign (.Name y py) X.env)) (Q:=λ_ s'=>SP X pins D0 .next s') rfl hs (D4 (S.cells I.ok)) S.kind S.loc ?_) (λ_ s' hq=>AAB (AAB hq)) λ_ _ e=>e);refine thn (hi pins s σ H _ I h) λv s1 h1=>thn h1 λitv s2 h2=>?_;obtain⟨it,fp,tn,J,H2,e,I2,T,t0,f2,W,w0,turn⟩:=h2;subst e;refine LN (Q:=λx H1=>FE i x σ H1 D0.nx) (RR:=λacc C=>compPost (model X.prog X.w) X.A X.xe (some (assign (.Name y py) X.env)) (λ_ s'=>SP X pins D0 .next s') acc C) S ht hc hg hgk hif he I2 T t0 f2 W w0 turn ?_;intro D C s' H' m J1 q hn fC;obtain⟨f0,f1,f2,f3,f4,f5⟩:=fC;show wpAny _ X.A (assign (.Name y py) X.env (.ref D)) _ _ _;refine wpAny_assign_Name (JI (v:=.ref D) J1 hN hiN (.inl hy) rfl (λs'' I'' hsb=>?_) (.inr hy));obtain⟨a,sb,ha⟩:=hsb;have hCa:C≠a:=by
  rcases ha with z|z
  ·rw[z];exact f1
  ·exact Ne.symm (f4 y a z)
 exact⟨m,hn.sameBut sb hCa,λh' sb'=>⟨_,H',I''.turned (t':=s''.toks) (λb o hb e=>(sb'.2 b hb).trans e) f0 f1 f3 f4 f5,q⟩⟩
end
section
variable{X:Cx}
theorem Ow:Cd X (.builtin "isinstance") (λxs H Q=>∃x T t b,xs=[x,.ty T]/\Iw X.K H x t/\PySem.W.kitOne X.K t (.type T)=some b/\Q (.bl b) H):=by
 intro pins s σ H xs us Q I r h;obtain⟨x,T,t,b,rfl,ty,e,q⟩:=h;obtain⟨u,w',rfl,rx,ry⟩:=Lu r;cases ry;exact TB I rx ty e λtk=>⟨.bl b,H,I.tok tk,rfl,q⟩
end
noncomputable def Its(x:Str):It:=⟨λi _=>i<x.cps.size,λi H v H'=>H'=H/\∃c,x.cps[i]?=some c/\v=.str ⟨#[c]⟩,λi _=>i=x.cps.size⟩
theorem cW:letOwnedTupleGo tg (.ref it) (.str x u)=pure ():=by
 unfold letOwnedTupleGo;cases tg<;>rfl
theorem N4{P:Program}{w:World}{K:PySem.W.Frag}{tg:Expr}(it:Addr)(ty:String)(x:Str)(t:Tok)
  (W:∀A:Around,A.handled=none->Walks P w A it [it] [it] x.cps.size (SignAt x) (λi h=>h.IsStrIter it ty x t i)) (sf:∀(A:Around) (i:Nat) (s:Shared) (Q:Value->Shared->Prop) (E:Value->Shared->Prop),s.heap.IsStrIter it ty x t i->Q (.ref it) s->wpAny (model P w) A (pyIter (.ref it)) Q E s) :
  Jd P w K tg (Its x) [it] it (λi h=>h.IsStrIter it ty x t i) where
 mem:=by simp
 obj:=λi h st b hb=>by
  have e:b=it:=by simpa using hb
  subst e;obtain⟨o,e,c,d⟩:=st;exact⟨o,e,λv z=>by rw[d] at z;cases z⟩
 keep:=λi h h' st k=>by
  obtain⟨o,e,r⟩:=st;exact⟨o,k it (by simp) o e,r⟩
 item:=by
  intro X hP hw hK hc i pins s σ H E I hf st hg;subst hP hw hK;obtain⟨f0,f1,f2,f3,f4,f5⟩:=hf it (by simp);refine(W X.A (I.ok.hd hc)).item i s _ _ hg st λv h' tk hv st' kk=>?_;obtain⟨c,u,hcu,rfl⟩:=hv;have I1:Inv X pins σ H { s with heap:=h',toks:=tk }:=I.turned (λb o hb e=>kk b o (by simpa using hb) e) f0 f1 f3 f4 f5;exact⟨_,rfl,wpAny_of_eq cW ⟨.str ⟨#[c]⟩,H,I1,⟨u,rfl⟩,⟨rfl,c,hcu,rfl⟩,st',λb hb=>(hf b hb).1⟩⟩
 done:=by
  intro X hP hw hK hc i pins s σ H E I hf st hg;subst hP hw hK;obtain⟨f0,f1,f2,f3,f4,f5⟩:=hf it (by simp);have hi:i=x.cps.size:=hg;subst hi;exact(W X.A (I.ok.hd hc)).done s _ _ st λh' tk kk=>⟨rfl,I.turned (λb o hb e=>kk b o (by simpa using hb) e) f0 f1 f3 f4 f5⟩
 self:=λA i s Q E st h=>sf A i s Q E st h
noncomputable def eS(tl:TE):TI:=λσ H R=>tl σ H λv H1=>∃x,v=.str x/\R (Its x) H1
theorem Zm{X:Cx}{tg l:Expr}{tl:TE}(hl:PE X l tl):PI X tg l (eS tl):=by
 intro pins s σ H R I h;refine thn (hl pins s σ H _ I h) λv s1 ⟨y,H1,I1,r1,q1⟩=>?_;obtain⟨x,e,q⟩:=q1;subst e;obtain⟨t,rfl⟩:=r1;have fp:∀b∈[s1.heap.objs.size],GB X pins H1 b:=λb hb=>by
  have e:b=s1.heap.objs.size:=by simpa using hb
  subst e;exact I1.fpOk (AAE _) (I1.hok.fresh (AAE _))
 cases ha:x.cps.all (·<128) with
 |false=>
  refine wpAny_pyIter_wide ha ?_;exact⟨s1.heap.objs.size,[s1.heap.objs.size],_,Its x,H1,rfl,I1.kept (t':=s1.toks) λb o e=>AAC _ e,N4 _ "str_iterator" x t (λA hA=>Walks.strWide hA _ x t) (λ_ _ _ _ _ st h=>wpAny_pyIter_striter_wide st h),⟨_,AAD _ rfl,rfl,rfl⟩,fp,q⟩
 |true=>
  refine wpAny_pyIter_ascii ha ?_;exact⟨s1.heap.objs.size,[s1.heap.objs.size],_,Its x,H1,rfl,I1.kept (t':=s1.toks) λb o e=>AAC _ e,N4 _ "str_ascii_iterator" x t (λA hA=>Walks.strAscii hA _ x t) (λ_ _ _ _ _ st h=>wpAny_pyIter_striter_ascii st h),⟨_,AAD _ rfl,rfl,rfl⟩,fp,q⟩
theorem Kr(d:α)(bs:List α):(List.range bs.length).map (λi=>bs.getD i d)=bs:=by
 apply List.ext_getElem
 ·simp
 ·intro i h1 h2;simp[List.getD,h2]
theorem SZ(bs:List Bool):((List.range bs.length).all λi=>bs.getD i true)=bs.all id:=by
 conv=>rhs;rw[←Kr true bs]
 rw[List.all_map];rfl
theorem SY(bs:List Bool):((List.range bs.length).any λi=>bs.getD i true)=bs.any id:=by
 conv=>rhs;rw[←Kr true bs]
 rw[List.any_map];rfl
section
variable{X:Cx}
theorem N7{P:Program}{w:World}{bs:List Bool}{its:List Value}(r:Vals (bs.map V.bl) its):TruthOf P w A (λi v=>its.toArray[i]?=some v) (λi=>bs.getD i true):=by
 intro i v s Q E hP hQ;have hi:its[i]?=some v:=by simpa using hP
 have hlt:i<its.length:=(AAT.mp hi).1;have hl:=r.length;rw[AAF] at hl;have hb:(bs.map V.bl)[i]?=some (V.bl (bs.getD i true)):=by
  rw[AAV,AAr (show i<bs.length by omega)];simp[List.getD,show i<bs.length by omega]
 obtain⟨u,hu,ru⟩:=r.get hb;rw[hi] at hu;cases hu;cases ru;exact wpAny_truthy_bool hQ
theorem LS(hc:X.calm=true){pins:List (Addr×Obj)}{s:Shared}{σ:St}{H:Hp}{a:Addr}{bs:List Bool}{Q:VK}{c:Bool}{f:(Nat->Bool)->List Nat->Bool}(I:Inv X pins σ H s)(ha:SqL X.K H a (bs.map V.bl))(hf:f (λi=>bs.getD i true) (List.range bs.length)=c)(q:Q (.bl c) H):
  wpAny (model X.prog X.w) X.A.in1 (pyIter (.ref a)) (λit s₂=>∃I fp wr n P St tr,it=.ref I/\Walks X.prog X.w X.A.in1 I fp wr n P St/\St 0 s₂.heap/\TruthOf X.prog X.w X.A.in1 P tr /\
   ∀h' tk,(∀b o,b∉wr->s₂.heap.get? b=some o->h'.get? b=some o)->EP X pins σ Q (.bool (f tr (List.range n))) { s₂ with heap:=h',toks:=tk }) X.xe s:=by
 obtain⟨its,r,p,hz⟩:=I.list ha;refine wpAny_pyIter_list p.isList ?_;have hlt:a<s.heap.objs.size:=by
  obtain⟨o,n,e,_⟩:=p;exact Heap.lt_size e
 have I1:Inv X pins σ H { s with heap:=s.heap.push { cls:=.type "list_iterator",data:=.fields #[.ref a,.int 0 0] } }:=I.kept (t':=s.toks) λb o e=>AAC _ e;obtain⟨f0,f1,f2,f3,f4,f5⟩:=I.fpOk (H':=H) (AAE _) (I.hok.fresh (AAE _));refine⟨s.heap.objs.size,_,_,_,_,_,_,rfl,Walks.list (prog:=X.prog) (w:=X.w) (A:=X.A.in1) (show X.A.handled=none from I.ok.hd hc) s.heap.objs.size a (AAc hlt) its.toArray,⟨⟨_,AAD _ rfl,rfl,rfl⟩,p.isList.push _⟩,N7 r,λh' tk kk=>?_⟩;have hl:=r.length;rw[AAF] at hl;rw[List.size_toArray,←hl,hf];exact⟨.bl c,H,I1.turned (t':=tk) (λb o hb e=>kk b o (by simpa using hb) e) f0 f1 f3 f4 f5,rfl,q⟩
theorem Tb(hc:X.calm=true):Cd X (.builtin "all") (λxs H Q=>∃(a:Addr) (bs:List Bool),xs=[.ref a]/\SqL X.K H a (bs.map V.bl)/\Q (.bl (bs.all id)) H):=by
 intro pins s σ H xs us Q I r h;obtain⟨a,bs,rfl,ha,q⟩:=h;obtain⟨u,rfl,ru⟩:=EQ r;cases ru;exact call_all_walk (LS (f:=λtr l=>l.all tr) hc I ha (SZ bs) q)
theorem Ta(hc:X.calm=true):Cd X (.builtin "any") (λxs H Q=>∃(a:Addr) (bs:List Bool),xs=[.ref a]/\SqL X.K H a (bs.map V.bl)/\Q (.bl (bs.any id)) H):=by
 intro pins s σ H xs us Q I r h;obtain⟨a,bs,rfl,ha,q⟩:=h;obtain⟨u,rfl,ru⟩:=EQ r;cases ru;exact call_any_walk (LS (f:=λtr l=>l.any tr) hc I ha (SY bs) q)
end
mutual
inductive DatV (K:PySem.W.Frag) (H:Hp):V->PyData->Prop
 |non:DatV K H .non .none
 |bl (b:Bool):DatV K H (.bl b) (.bool b)
 |int (i:Int):DatV K H (.int i) (.int i)
 |str (x:Str):DatV K H (.str x) (.str x)
 |tup {a:Addr} {xs:List V} {ds:List PyData}:SqT K H a xs->DatVs K H xs ds->DatV K H (.ref a) (.tuple ds)
 |lst {a:Addr} {xs:List V} {ds:List PyData}:SqL K H a xs->DatVs K H xs ds->DatV K H (.ref a) (.list ds)
inductive DatVs (K:PySem.W.Frag) (H:Hp):List V->List PyData->Prop
 |nil:DatVs K H [] []
 |cons {v:V} {d:PyData} {vs:List V} {ds:List PyData}:DatV K H v d->DatVs K H vs ds->DatVs K H (v::vs) (d::ds)
end
section
variable{X:Cx}{pins:List (Addr×Obj)}{σ:St}{H:Hp}{s:Shared}
mutual
theorem DatV.reads(I:Inv X pins σ H s):∀{v:V} {d:PyData},DatV X.K H v d->∀{u:Value},RelV v u->∃as,Reads s.heap u d as
 |_,_,.non,_,r=>by cases r;exact⟨[],.none⟩
 |_,_,.bl b,_,r=>by cases r;exact⟨[],.bool b⟩
 |_,_,.int i,_,r=>by obtain⟨t,rfl⟩:=r;exact⟨[],.int i t⟩
 |_,_,.str x,_,r=>by obtain⟨t,rfl⟩:=r;exact⟨[],.str x t⟩
 |_,_,.tup hq hs,_,r=>by
  cases r;obtain⟨its,rv,⟨o,e,c,n,d⟩,_⟩:=I.tuple hq;obtain⟨as,ra⟩:=DatVs.reads I hs rv;exact⟨_,.tuple e c d (by simpa using ra)⟩
 |_,_,.lst hq hs,_,r=>by
  cases r;obtain⟨its,rv,⟨o,n,e,c,_,d⟩,_⟩:=I.list hq;obtain⟨as,ra⟩:=DatVs.reads I hs rv;exact⟨_,.list e c d (by simpa using ra)⟩
theorem DatVs.reads(I:Inv X pins σ H s):∀{vs:List V} {ds:List PyData},DatVs X.K H vs ds->∀{us:List Value},Vals vs us->∃as,ReadsAll s.heap us ds as
 |_,_,.nil,_,.nil=>⟨[],.nil⟩
 |_,_,.cons h t,_,.cons r rr=>by
  obtain⟨a,ra⟩:=DatV.reads I h r;obtain⟨b,rb⟩:=DatVs.reads I t rr;exact⟨_,.cons ra rb⟩
end
end
section
variable{X:Cx}
theorem aD(hu:X.A.units+64<cLine):OpR X (compareOp .Eq) (λx y H Q=>∃d d',DatV X.K H x d/\DatV X.K H y d'/\SeqAt.shaped d=true/\SeqAt.shaped d'=true/\Q (.bl (PyData.eqv d d')) H):=by
 intro pins s σ H x y v u Q I rx ry h;obtain⟨d,d',h1,h2,s1,s2,q⟩:=h;obtain⟨as,ra⟩:=h1.reads I rx;obtain⟨bs,rb⟩:=h2.reads I ry;exact SeqAt.compareEq_shaped ra rb s1 s2 hu ⟨.bl _,H,I,rfl,q⟩
theorem Z9(hu:X.A.units+64<cLine):OpR X (compareOp .NotEq) (λx y H Q=>∃d d',DatV X.K H x d/\DatV X.K H y d'/\SeqAt.shaped d=true/\SeqAt.shaped d'=true/\Q (.bl (!PyData.eqv d d')) H):=by
 intro pins s σ H x y v u Q I rx ry h;obtain⟨d,d',h1,h2,s1,s2,q⟩:=h;obtain⟨as,ra⟩:=h1.reads I rx;obtain⟨bs,rb⟩:=h2.reads I ry;exact SeqAt.compareNe_shaped ra rb s1 s2 hu ⟨.bl _,H,I,rfl,q⟩
theorem Up(hr:Room k A):A.units+64<cLine:=hr.units
end
theorem Inv.turnedL{X:Cx}{pins:List (Addr×Obj)}{σ:St}{H:Hp}{t':Nat}{ch:List Addr}(I:Inv X pins σ H s)(k:∀b o,b∉ch->s.heap.get? b=some o->h'.get? b=some o)(hf:∀b∈ch,GB X pins H b):Inv X pins σ H { s with heap:=h',toks:=t' }:=by
 have nit:∀b u,H b=some u->b∉ch:=λb u e z=>by rw[(hf b z).1] at e;cases e
 refine I.step (g':=s.gens) (d':=s.drawn) (ch:=ch) (λb hb=>⟨(hf b hb).2.2.2.1,(hf b hb).2.1,(hf b hb).2.2.2.2.1,(hf b hb).2.2.2.2.2⟩) (λb o _ _ hc e _=>k b o hc e) (λb o _ _ hc e _=>⟨o.slots,k b o hc e⟩) (λ_ _ _ _ n=>n)
  (λb o hc e=>⟨o,k b o hc e⟩) (λ_ _ e=>e) (λ_ _ _ e=>e) (λb ps e=>⟨#[],by rw[e];simp⟩) (λm hm=>?_) (λb u e=>?_) I.bare
 ·obtain⟨o,es,ep,ho,r⟩:=hm;exact⟨o,es,ep,k _ o (λz=>(hf _ z).2.1 rfl) ho,r⟩
 ·refine(I.hok b u e).stay (λc v hc q=>k c v ?_ q) (λ_ q=>q) λ_ _ q=>q;rcases hc with z|z
  ·rw[z];exact nit b u e
  ·exact nit c _ z
noncomputable def ItP(K:PySem.W.Frag)(n:Nat)(src:Nat->List V)(Cond:PySem.W.Frag->Hp->Prop):It:=
 ⟨λi H=>i<n/\Cond K H,λi H v H'=>∃T,H T=none/\v=.ref T/\H'=upd H T (.tup (src i)),λi H=>i=n/\Cond K H⟩
theorem Ha{P:Program}{w:World}{K:PySem.W.Frag}{es:List Expr}{k0:Nat}{pos:Pos}{I0:Addr}{ι:Type}{fp wr:List Addr}{n:Nat}{src:Nat->List V}{good:ι->Prop}{Pt:ι->Nat->Array Value->Prop}{Sw:ι->Nat->Heap->Prop}{Mid:ι->Nat->Addr->Heap->Prop}{tn:Nat->Heap->Prop}{Cond:PySem.W.Frag->Hp->Prop}
  (W:∀A:Around,A.handled=none->∀z,good z->WalksT P w A I0 fp wr n (Pt z) (Sw z) (Mid z)) (hmem:I0∈wr) (hPt:∀z i vals,good z->Pt z i vals->Vals (src i) vals.toList) (hlen:∀i,(src i).length<=sizeLine)
  (obj:∀i h,tn i h->∀b∈wr,∃o,h.get? b=some o/\∀v,o.data≠.cell v)
  (keep:∀i h h',tn i h->(∀b∈wr,∀o,h.get? b=some o->h'.get? b=some o)->tn i h')
  (into:∀(X:Cx) (pins:List (Addr×Obj)) (σ:St) (H:Hp) (s:Shared) (i:Nat),X.prog=P->X.w=w->X.K=K->Inv X pins σ H s->Cond K H->tn i s.heap->∃z,good z/\Sw z i s.heap) (out:∀z i h,Sw z i h->tn i h)
  (self:∀(A:Around) (i:Nat) (s:Shared) (Q:Value->Shared->Prop) (E:Value->Shared->Prop),tn i s.heap->Q (.ref I0) s->wpAny (model P w) A (pyIter (.ref I0)) Q E s) :
  Jd P w K (.Tuple es k0 pos) (ItP K n src Cond) wr I0 tn where
 mem:=hmem
 obj:=obj
 keep:=keep
 item:=by
  intro X hP hw hK hc i pins s σ H E I hf st hg;obtain⟨hi,hcond⟩:=hg;obtain⟨z,gz,sz⟩:=into X pins σ H s i hP hw hK I hcond st;have W':=W X.A (I.ok.hd hc) z gz;refine W'.item i s _ _ hi sz λT vals h' tk hp hT ht hm kk=>⟨_,rfl,?_⟩;have I1:Inv X pins σ H { s with heap:=h',toks:=tk }:=I.turnedL kk hf;refine W'.go es k0 pos i T _ _ _ hm λh2 st2 kk2=>?_;have I2:Inv X pins σ H { s with heap:=h2,toks:=tk }:=I1.turnedL (t':=tk) kk2 hf;have hn:H T=none:=I.hok.fresh hT;have ht2:IsTup h2 T vals:=by
   obtain⟨o,e,r⟩:=ht;exact⟨o,kk2 T o (W'.apart i T _ hm) e,r⟩
  refine⟨.ref T,upd H T (.tup (src i)),I2.track (I.fpOk hT hn) ⟨hlen i,vals.toList,hPt z i vals gz hp,by simpa using ht2⟩,rfl,⟨T,hn,rfl,rfl⟩,out z _ _ st2,λb hb=>?_⟩;have hbT:b≠T:=λz=>W'.apart i T _ hm (by rw[←z];exact hb);rw[BG hbT];exact(hf b hb).1
 done:=by
  intro X hP hw hK hc i pins s σ H E I hf st hg;obtain⟨hi,hcond⟩:=hg;subst hi;obtain⟨z,gz,sz⟩:=into X pins σ H s i hP hw hK I hcond st;exact(W X.A (I.ok.hd hc) z gz).done s _ _ sz λh' tk kk=>⟨rfl,I.turnedL kk hf⟩
 self:=self
noncomputable def Gn(xs:List V)(i:Nat):List V:=[.int i,xs.getD i .non]
theorem LK(r:Vals xs its)(h:∃t x,its.toArray[i]?=some x/\vals=#[.int i t,x]):Vals (Gn xs i) vals.toList:=by
 obtain⟨t,x,hx,rfl⟩:=h;have hx':its[i]?=some x:=by simpa using hx
 have hlt:i<its.length:=(AAT.mp hx').1;have hl:=r.length;have hv:xs[i]?=some (xs.getD i .non):=by
  rw[AAr (by omega)];simp[List.getD,show i<xs.length by omega]
 obtain⟨u,hu,ru⟩:=r.get hv;rw[hx'] at hu;cases hu;exact .cons ⟨t,rfl⟩ (.cons ru .nil)
theorem Rq{P:Program}{w:World}{f:Nat->Heap->Prop}(A:Around)(i:Nat)(s:Shared)(Q:Value->Shared->Prop)(E:Value->Shared->Prop)(st:(∃old,IsEnum s.heap e it i old)/\f i s.heap)(h:Q (.ref e) s):wpAny (model P w) A (pyIter (.ref e)) Q E s:=by
 obtain⟨⟨old,he⟩,_⟩:=st;exact wpAny_pyIter_enum he h
theorem WE(he:∃old,IsEnum h e it i old)(ho:h.get? it=some o)(hd:∃vs,o.data=.fields vs):∀b∈[e,it],∃o,h.get? b=some o/\∀v,o.data≠.cell v:=λb hb=>by
 rcases AAI.mp hb with z|z
 ·subst z;obtain⟨old,he⟩:=he;exact⟨_,he,λv q=>by cases q⟩
 ·rw[AAK.mp z];obtain⟨vs,hd⟩:=hd;exact⟨o,ho,λv q=>by rw[hd] at q;cases q⟩
theorem PY{P:Program}{w:World}{K:PySem.W.Frag}{k0:Nat}{pos:Pos}(a e it:Addr)(xs:List V)(hei:e≠it)(hea:e≠a)(hai:a≠it):
  Jd P w K (.Tuple es k0 pos) (ItP K xs.length (Gn xs) λK H=>SqL K H a xs) [e,it] e (λi h=>(∃old,IsEnum h e it i old)/\h.IsListIter it a i):=
 Ha (ι:=List Value) (good:=λits=>Vals xs its) (Pt:=λits i vals=>∃t x,its.toArray[i]?=some x/\vals=#[.int i t,x]) (Sw:=λits i h=>(∃old,IsEnum h e it i old)/\h.IsListIter it a i/\h.IsList a its.toArray)
  (λA hA its r=>by
   have hl:xs.length=its.toArray.size:=by rw[List.size_toArray];exact r.length
   rw[hl];exact WalksT.enumerateD (Draws.list (show A.in1.handled=none from hA) it a hai its.toArray) e hei (by simp[hei,hea]) (by simp))
  (by simp) (λits i vals r h=>LK r h) (λi=>(by show 2<=sizeLine;decide))
  (λi h st=>by obtain⟨o,ho,_,hd⟩:=st.2;exact WE st.1 ho ⟨_,hd⟩)
  (λi h h' st k=>⟨by obtain⟨old,q⟩:=st.1;exact⟨old,k e (by simp) _ q⟩,st.2.at λo q=>k it (by simp) o q⟩)
  (λX pins σ H s i hP hw hK I hc st=>by
   subst hK;obtain⟨its,r,p,_⟩:=I.list hc;exact⟨its,r,st.1,st.2,p.isList⟩)
  (λz i h st=>⟨st.1,st.2.1⟩) (λA i s Q E st h=>Rq (f:=λi h=>h.IsListIter it a i) A i s Q E st h)
end L2
namespace L2
open PySem PySem.Spec PyProof.Rows
open AutoSeq1 (wpAny_loadPart')
section
variable{X:Cx}{es:List Expr}{k0:Nat}{tpos:Pos}
noncomputable def au(K:PySem.W.Frag)(ta:TA):TI:=λσ H R=>ta σ H λvs H1=>∃a xs,vs=[.ref a]/\SqL K H1 a xs/\R (ItP K xs.length (Gn xs) λK H=>SqL K H a xs) H1
theorem MY:bootBuiltins "enumerate" = some (.type "enumerate"):=by decide +kernel
theorem UP(I:Inv X pins σ H s):∀b∈[s.heap.objs.size+1,s.heap.objs.size],GB X pins H b:=λb hb=>by
 have hb':b=s.heap.objs.size+1∨b=s.heap.objs.size:=by simpa using hb
 rcases hb' with e|e<;>subst e
 ·exact I.fpOk (Nat.le_succ _) (I.hok.fresh (Nat.le_succ _))
 ·exact I.fpOk (AAE _) (I.hok.fresh (AAE _))
theorem VJ(hg:Gl X "enumerate")(hm:X.mg "enumerate" = none)(ha:PA X [a] ta)(hs:starEach [a] X.env=[(false,eval a X.env)]:=by rfl):PI X (.Tuple es k0 tpos) (.Call (.Name "enumerate" p) [a] [] pos) (au X.K ta):=by
 intro pins s σ H R I h;refine Call_ (F4 I hg hm MY (PyProof.Rows.callWith_type1 (thn (ha pos pins s σ H _ I h) λus s1 ⟨vs,H1,I1,r1,q1⟩=>?_) hs rfl));obtain⟨l,xs,e,hq,q⟩:=q1;subst e;obtain⟨u,rfl,ru⟩:=EQ r1;cases ru;obtain⟨its,rv,pl,hz⟩:=I1.list hq;have hlt:l<s1.heap.objs.size:=by obtain⟨o,n,e,_⟩:=pl;exact Heap.lt_size e
 refine call_enumerate_list pl.isList λh' he hit hsz kk=>wpAny_pyIter_enum he ?_;exact⟨s1.heap.objs.size+1,[s1.heap.objs.size+1,s1.heap.objs.size],_,_,H1,rfl,I1.kept (t':=s1.toks) kk,PY l _ _ xs (Nat.succ_ne_self _) (Nat.ne_of_gt (AAg hlt)) (AAc hlt),⟨⟨_,he⟩,hit⟩,UP I1,q⟩
end
end L2
namespace L2
open PySem PySem.Spec PyProof.Rows
def KGet(P:Params)(K:PySem.W.Frag)(a:Addr)(y:V)(r:Option V):Prop:=
 ∃x es n r',y=.str x/\K.lookup a=some ⟨.type "dict",none,.dict es n,#[]⟩/\PySem.W.KeysLit P es.toList/\PySem.W.nsIn K a x=some r'/\RelO r r'/\(a==sysModules)=false
section
variable{X:Cx}{pins:List (Addr×Obj)}{σ:St}{H:Hp}{s:Shared}{a:Addr}{y v:V}{u:Value}{o:Option V}{A:Around}{E:Value->Shared->Prop}
theorem KGet.typeIs(I:Inv X pins σ H s)(g:KGet X.w.params X.K a y o):s.TypeIs (.ref a) "dict" := by
 obtain⟨x,es,n,r',_,hl,_⟩:=g;exact⟨_,I.kIn a _ hl,rfl⟩
theorem S9(I:Inv X pins σ H s)(g:KGet X.w.params X.K a y (some v))(ry:RelV y u)(h:∀w' s',Inv X pins σ H s'->RelV v w'->Q w' s'):
  wpAny (model X.prog X.w) A (getItem (.ref a) u) Q E s:=by
 obtain⟨x,es,n,r',e,hl,hk,hn,ro,_⟩:=g;subst e;obtain⟨t,rfl⟩:=ry;obtain⟨w',rfl,rw'⟩:=RelO.some_of ro;exact wpAny_getItem_of (strKind_is X.prog X.w x t) (PySem.W.mapOf_K (prog:=X.prog) (λa o q=>I.kIn a o q) hl hk) (PySem.W.find_K hl hn) (h w' _ (I.tok _) rw')
theorem eR(I:Inv X pins σ H s)(g:KGet X.w.params X.K a y o)(ry:RelV y u)(h:∀s',Inv X pins σ H s'->Q (.bool o.isSome) s'):
  wpAny (model X.prog X.w) A (compareOp .In u (.ref a)) Q E s:=by
 obtain⟨x,es,n,r',e,hl,hk,hn,ro,lo⟩:=g;subst e;obtain⟨t,rfl⟩:=ry;refine wpAny_in_of (strKind_is X.prog X.w x t) lo (PySem.W.mapOf_K (prog:=X.prog) (λa o q=>I.kIn a o q) hl hk) ?_;rw[PySem.W.find_K hl hn,←ro.isSome_eq];exact h _ (I.tok _)
end
noncomputable def bd(P:Params)(K:PySem.W.Frag)(td ty:TE):TE:=λσ H Q=>td σ H λx H1=>ty σ H1 λy H2=>∃a v,x=.ref a/\KGet P K a y (some v)/\Q v H2
noncomputable def bc(P:Params)(K:PySem.W.Frag)(ty td:TE):TE:=λσ H Q=>ty σ H λy H1=>td σ H1 λx H2=>∃a o,x=.ref a/\KGet P K a y o/\Q (.bl o.isSome) H2
section
variable{X:Cx}{o i:Expr}{pos:Pos}{td ty:TE}
theorem Xe(ho:PE X o td)(hi:PE X i ty)(hs:bM i):PE X (.Subscript o i pos) (bd X.w.params X.K td ty):=by
 intro pins s σ H Q I h;refine W1 PySem.F.slot_dict_getitem.lookup hs (thn (ho pins s σ H _ I h) λu s1 ⟨x,H1,I1,rx,q1⟩=>thn (hi pins s1 σ H1 _ I1 q1) λiv s2 ⟨y,H2,I2,ry,a,v,ex,g,q2⟩=>?_);subst ex;obtain rfl:u=Value.ref a:=rx;exact⟨g.typeIs I2,S9 I2 g ry λw' s3 I3 rw'=>⟨v,H2,I3,rw',q2⟩⟩
theorem Zz(hi:PE X i ty)(ho:PE X o td):PC X .In i o (bc X.w.params X.K ty td):=by
 intro pins s σ H Q I h;refine thn (hi pins s σ H _ I h) λiv s1 ⟨y,H1,I1,ry,q1⟩=>thn (ho pins s1 σ H1 _ I1 q1) λu s2 ⟨x,H2,I2,rx,a,ov,ex,g,q2⟩=>?_;subst ex;obtain rfl:u=Value.ref a:=rx;exact eR I2 g ry λs3 I3=>⟨.bl ov.isSome,H2,I3,rfl,q2⟩
end
noncomputable def d8(tv:TE):TE:=λσ H Q=>tv σ H λv H1=>(∃x,v=.str x/\x.length<=sizeLine/\Q (.str x) H1)∨∃a:Int,v=.int a/\a.natAbs.log2<1920/\Q (.str (toString a)) H1
noncomputable def Qf:List TE->Str->TE
 |[],out=>λ_ H Q=>out.length<=sizeLine/\Q (.str out) H
 |t::r,out=>λσ H Q=>t σ H λv H1=>∃y,v=.str y/\(out++y).length<=sizeLine/\Qf r (out++y) σ H1 Q
def PJ(X:Cx)(es:List Expr)(ts:List TE):Prop:=
 ∀(out:Str) (pins:List (Addr×Obj)) (s:Shared) (σ:St) (H:Hp) (Q:VK),Inv X pins σ H s->Qf ts out σ H Q->wpAny (model X.prog X.w) X.A (joinParts out (evalEach es X.env)) (EP X pins σ Q) X.xe s
section
variable{X:Cx}{value e e2:Expr}{es:List Expr}{pos:Pos}{tv t t2:TE}{ts:List TE}
theorem Zv(hv:PE X value tv):PE X (.FormattedValue value (-1) none pos) (d8 tv):=by
 intro pins s σ H Q I h;refine FormattedValue_plain (thn (hv pins s σ H _ I h) λu s1 ⟨v,H1,I1,r,q⟩=>?_);rcases q with ⟨x,e,hz,q⟩|⟨a,e,hz,q⟩
 ·subst e;obtain⟨t,rfl⟩:=r;exact formatField_str (λt' tk=>⟨.str x,H1,I1.tok _,⟨t',rfl⟩,q⟩) hz
 ·subst e;obtain⟨t,rfl⟩:=r;exact formatField_int_small hz ⟨.str (toString a),H1,I1.tok _,⟨_,rfl⟩,q⟩
theorem Zk:PJ X [] []:=λout pins s σ H Q I h=>joinParts_nil ⟨.str out,H,I.tok _,⟨_,rfl⟩,h.2⟩ h.1
theorem XY(he:PE X e t)(hr:PJ X es ts):PJ X (e::es) (t::ts):=λout pins s σ H Q I h=>by
 show wpAny _ _ (joinParts out (eval e X.env::evalEach es X.env)) _ _ _;refine joinParts_cons (thn (he pins s σ H _ I h) λu s1 ⟨v,H1,I1,r,y,e,hz,q⟩=>?_);subst e;obtain⟨tk,rfl⟩:=r;exact⟨hz,hr _ pins s1 σ H1 Q I1 q⟩
theorem Se(h:PJ X (e::e2::es) (t::t2::ts)):PE X (.JoinedStr (e::e2::es) pos) (Qf (t::t2::ts) Str.empty):=λpins s σ H Q I q=>JoinedStr_many (h Str.empty pins s σ H Q I q)
end
end L2
namespace Nk
open PySem PySem.Spec PyProof.Rows
inductive NK where
 |int (i:Int)|tup (ks:List NK)
noncomputable instance:DecidableEq NK:=λ_ _=>Classical.propDecidable _
mutual
def NK.hash:NK->Int
 | .int i=>hashInt i
 | .tup ks=>reduceHash (Builtin.Tuple.tupleHashOf (NK.hashes ks))
def NK.hashes:List NK->List Int
 |[]=>[]
 |k::ks=>NK.hash k::NK.hashes ks
end
end Nk
namespace Nk
open PySem PySem.Spec PyProof.Rows PySem.MeetsSeq PySem.SeqAt
noncomputable abbrev Cs:=Int×Int×List Int
noncomputable def csK(c:Cs):NK:=.tup [.int c.1,.int c.2.1,.tup (c.2.2.map NK.int)]
open L2 in
noncomputable def dS(p:Addr)(l:List (Cs×Addr×V)):HO:=.ext λh=>∃(us:List Value) (o:Obj) (es:Array DictEntry) (ep:Nat),Vals (l.map (·.2.2)) us/\h.get? p=some o/\o.ExactDict/\o.data=.dict es ep /\
 es.toList=(l.zip us).map (λx=>{ key:=.ref x.1.2.1,hash:=(csK x.1.1).hash,val:=x.2 })/\(l.map (·.1)).Nodup/\l.length<=sizeLine/\(p==sysModules)=false
end Nk
namespace Mi
open PySem L2 Nk
inductive D where
 |non|bl (b:Bool)|int (i:Int)|str (x:Str)|ty (n:String)|scr (ns:List Int)|tup (xs:List D)|lst (xs:List D)|ref (n:Nat)
mutual
def Fh:D->D->Bool
 | .non,.non=>true
 | .bl a,.bl b=>a==b
 | .int a,.int b=>a==b
 | .str a,.str b=>a==b
 | .ty a,.ty b=>a==b
 | .scr a,.scr b=>a==b
 | .tup a,.tup b=>QH a b
 | .lst a,.lst b=>QH a b
 | .ref a,.ref b=>a==b
 |_,_=>false
def QH:List D->List D->Bool
 |[],[]=>true
 |a::as,b::bs=>Fh a b&&QH as bs
 |_,_=>false
end
mutual
theorem Ry:∀{a b:D},Fh a b=true->a=b
 | .tup a,.tup b,h=>by unfold Fh at h;rw[Ni h]
 | .lst a,.lst b,h=>by unfold Fh at h;rw[Ni h]
 | .non,b,h=>by cases b<;>first|rfl|cases h
 | .bl a,b,h=>by cases b<;>first|(unfold Fh at h;rw[eq_of_beq h])|cases h
 | .int a,b,h=>by cases b<;>first|(unfold Fh at h;rw[eq_of_beq h])|cases h
 | .str a,b,h=>by cases b<;>first|(unfold Fh at h;rw[eq_of_beq h])|cases h
 | .ty a,b,h=>by cases b<;>first|(unfold Fh at h;rw[eq_of_beq h])|cases h
 | .scr a,b,h=>by cases b<;>first|(unfold Fh at h;rw[eq_of_beq h])|cases h
 | .ref a,b,h=>by cases b<;>first|(unfold Fh at h;rw[eq_of_beq h])|cases h
theorem Ni:∀{a b:List D},QH a b=true->a=b
 |[],[],_=>rfl
 |a::as,b::bs,h=>by
  unfold QH at h;rw[Bool.and_eq_true] at h;rw[Ry h.1,Ni h.2]
end
mutual
theorem Me:∀a:D,Fh a a=true
 | .tup a=>by unfold Fh;exact Jb a
 | .lst a=>by unfold Fh;exact Jb a
 | .non=>rfl
 | .bl a=>by unfold Fh;exact beq_self_eq_true a
 | .int a=>by unfold Fh;exact beq_self_eq_true a
 | .str a=>by unfold Fh;exact beq_self_eq_true a
 | .ty a=>by unfold Fh;exact beq_self_eq_true a
 | .scr a=>by unfold Fh;exact beq_self_eq_true a
 | .ref a=>by unfold Fh;exact beq_self_eq_true a
theorem Jb:∀a:List D,QH a a=true
 |[]=>rfl
 |a::as=>by unfold QH;rw[Me a,Jb as];rfl
end
instance:DecidableEq D:=λa b=>if h:Fh a b=true then .isTrue (Ry h) else .isFalse λe=>h (by rw[e];exact Me b)
inductive MO where
 |lst (xs:List D)|dK (kvs:List (Key×D))|dC (kvs:List (Cs×D))|ins (c:Str) (fs:List (Str×D))|dP (kvs:List (D×D))|exc (c:Str) (n:Option Nat)
abbrev Mh:=List MO
set_option genInjectivity false in
structure KW where
 fr:PySem.W.Frag
 w:World
instance:CoeOut KW PySem.W.Frag:=⟨KW.fr⟩
noncomputable abbrev _root_.L2.Cx.kw(X:Cx):KW:=⟨X.K,X.w⟩
noncomputable abbrev M(α:Type):=Mh->Option (α×Mh)
noncomputable abbrev Sl:=List (Option D)
noncomputable def ret{α:Type}(a:α):M α:=λμ=>some (a,μ)
noncomputable def bnd{α β:Type}(m:M α)(f:α->M β):M β:=λμ=>match m μ with
 |some (a,μ1)=>f a μ1
 |none=>none
noncomputable def BO{α:Type}:M α:=λ_=>none
theorem AI(h:bnd m f μ=some r):∃a μ1,m μ=some (a,μ1)/\f a μ1=some r:=by
 unfold bnd at h;cases e:m μ with
 |none=>rw[e] at h;cases h
 |some p=>obtain⟨a,μ1⟩:=p;rw[e] at h;exact⟨a,μ1,rfl,h⟩
@[simp] theorem dm(a:α)(f:α->M β):bnd (ret a) f=f a:=rfl
theorem AO(h:m μ=some (a,μ1)):bnd m f μ=f a μ1:=by unfold bnd;rw[h]
def ScrAt(K:PySem.W.Frag)(H:Hp)(a:Addr)(xs:List V):Prop:=
 (∃o,H a=some (.frz o (.lst xs)))∨∃(o:Obj) (its:Array Value) (n:Nat),K.lookup a=some o/\o.cls=.type "list" /\ o.dict=none/\o.data=.seq its n/\its.size<=sizeLine/\Vals xs its.toList
theorem ScrAt.sq(h:ScrAt K H a xs):SqL K H a xs:=h.elim (λz=>.inl (.inr z)) .inr
mutual
def Is(K:KW)(ι:Nat->Addr)(k:Nat)(H:Hp):D->V->Prop
 | .non,v=>v=.non
 | .bl b,v=>v=.bl b
 | .int i,v=>v=.int i
 | .str x,v=>v=.str x
 | .ty n,v=>v=.ty n
 | .scr ns,v=>∃p,v=.ref p/\ScrAt K H p (ns.map V.int)
 | .tup ds,v=>∃p vs,v=.ref p/\SqT K H p vs/\IsL K ι k H ds vs
 | .lst ds,v=>∃p vs,v=.ref p/\H p=some (.lst vs)/\(∀n,n<k->ι n≠p)/\IsL K ι k H ds vs
 | .ref n,v=>n<k/\v=.ref (ι n)
def IsL(K:KW)(ι:Nat->Addr)(k:Nat)(H:Hp):List D->List V->Prop
 |[],vs=>vs=[]
 |d::ds,vs=>∃v vs',vs=v::vs'/\Is K ι k H d v/\IsL K ι k H ds vs'
end
section
variable{K:KW}{ι ι' ι2:Nat->Addr}{k k' k2:Nat}{H H' H2:Hp}
theorem IsL.length:∀{ds:List D} {vs:List V},IsL K ι k H ds vs->vs.length=ds.length
 |[],_,h=>by unfold IsL at h;subst h;rfl
 |_::_,_,h=>by
  unfold IsL at h;obtain⟨v,vs',rfl,_,h⟩:=h;simp only[AAH,IsL.length h]
theorem IsL.get:∀{ds:List D} {vs:List V} {i:Nat} {d:D},IsL K ι k H ds vs->ds[i]?=some d->∃v,vs[i]?=some v/\Is K ι k H d v
 |[],_,_,_,_,e=>by simp at e
 |_::_,_,0,_,h,e=>by
  unfold IsL at h;obtain⟨v,vs',rfl,h1,_⟩:=h;simp at e;subst e;exact⟨v,rfl,h1⟩
 |_::_,_,i+1,d,h,e=>by
  unfold IsL at h;obtain⟨v,vs',rfl,_,h⟩:=h;obtain⟨u,e1,e2⟩:=IsL.get (i:=i) (d:=d) h (by simpa using e);exact⟨u,by simpa using e1,e2⟩
theorem IsL.append:∀{ds es:List D} {vs us:List V},IsL K ι k H ds vs->IsL K ι k H es us->IsL K ι k H (ds++es) (vs++us)
 |[],_,_,_,h,q=>by unfold IsL at h;subst h;exact q
 |_::_,_,_,_,h,q=>by
  unfold IsL at h;obtain⟨v,vs',rfl,h1,h⟩:=h;show IsL K ι k H (_::(_++_)) _;unfold IsL;exact⟨v,_,rfl,h1,IsL.append h q⟩
theorem IsL.take:∀(n:Nat) {ds:List D} {vs:List V},IsL K ι k H ds vs->IsL K ι k H (ds.take n) (vs.take n)
 |0,ds,vs,_=>by rw[List.take_zero,List.take_zero];unfold IsL;rfl
 |n+1,[],_,h=>by unfold IsL at h;subst h;simp only[List.take_nil];unfold IsL;rfl
 |n+1,_::_,_,h=>by
  unfold IsL at h;obtain⟨v,vs',rfl,h1,h⟩:=h;simp only[List.take_succ_cons];unfold IsL;exact⟨v,_,rfl,h1,IsL.take n h⟩
theorem IsL.drop:∀(n:Nat) {ds:List D} {vs:List V},IsL K ι k H ds vs->IsL K ι k H (ds.drop n) (vs.drop n)
 |0,_,_,h=>h
 |n+1,[],_,h=>by unfold IsL at h;subst h;simp only[List.drop_nil];unfold IsL;rfl
 |n+1,_::_,_,h=>by
  unfold IsL at h;obtain⟨v,vs',rfl,h1,h⟩:=h;simp only[List.drop_succ_cons];exact IsL.drop n h
theorem IsL.cons(h:Is K ι k H d v)(t:IsL K ι k H ds vs):IsL K ι k H (d::ds) (v::vs):=by
 unfold IsL;exact⟨v,vs,rfl,h,t⟩
theorem IsL.nil:IsL K ι k H [] []:=by unfold IsL;rfl
theorem IsL.one(h:Is K ι k H d v):IsL K ι k H [d] [v]:=.cons h .nil
theorem IsL.reverse:∀{ds:List D} {vs:List V},IsL K ι k H ds vs->IsL K ι k H ds.reverse vs.reverse
 |[],_,h=>by unfold IsL at h;subst h;exact .nil
 |_::_,_,h=>by
  unfold IsL at h;obtain⟨v,vs',rfl,h1,h⟩:=h;rw[List.reverse_cons,List.reverse_cons];exact(IsL.reverse h).append (.one h1)
theorem IsL.set(h1:Is K ι k H d v):∀{ds:List D} {vs:List V} (i:Nat),IsL K ι k H ds vs->IsL K ι k H (ds.set i d) (vs.set i v)
 |[],_,_,h=>by unfold IsL at h;subst h;exact .nil
 |_::_,_,0,h=>by
  unfold IsL at h;obtain⟨v,vs',rfl,_,h⟩:=h;exact .cons h1 h
 |_::_,_,i+1,h=>by
  unfold IsL at h;obtain⟨v,vs',rfl,h0,h⟩:=h;exact .cons h0 (IsL.set h1 i h)
theorem IsL.ofInts:∀(ns:List Int),IsL K ι k H (ns.map D.int) (ns.map V.int)
 |[]=>.nil
 |n::r=>.cons (by unfold Is;rfl) (IsL.ofInts r)
noncomputable def V1:HO->Bool
 | .lst _=>true
 | .dK _=>true
 | .ext _=>true
 | .ins _ _ _=>true
 |_=>false
def Muts(ι:Nat->Addr)(k:Nat)(H:Hp):Prop:=∀n,n<k->∃o,H (ι n)=some o/\V1 o=true
structure Ext(ι:Nat->Addr)(k:Nat)(H:Hp)(ι':Nat->Addr)(k':Nat)(H':Hp):Prop where
 le:k<=k'
 agree:∀n,n<k->ι' n=ι n
 fresh:∀n,k<=n->n<k'->H (ι' n)=none
 keep:∀p o,H p=some o->(∀n,n<k->ι n≠p)->H' p=some o
 was:Muts ι k H
 there:Muts ι k H'
theorem Ext.refl(h:Muts ι k H):Ext ι k H ι k H:=⟨AAE _,λ_ _=>rfl,λn h1 h2=>absurd h1 (by omega),λ_ _ e _=>e,h,h⟩
theorem Ext.trans(a:Ext ι k H ι' k' H')(b:Ext ι' k' H' ι2 k2 H2):Ext ι k H ι2 k2 H2 where
 le:=AAq a.le b.le
 agree:=λn h=>(b.agree n (AAM h a.le)).trans (a.agree n h)
 fresh:=λn h1 h2=>by
  rcases Nat.lt_or_ge n k' with z|z
  ·rw[b.agree n z];exact a.fresh n h1 z
  ·have q:=b.fresh n z h2;cases e:H (ι2 n) with
   |none=>rfl
   |some o=>
    by_cases hx:∃m,m<k/\ι m=ι2 n
    ·obtain⟨m,hm,e2⟩:=hx;obtain⟨o',q',_⟩:=a.there m hm;rw[e2,q] at q';cases q'
    ·have:=a.keep _ o e (λm hm e2=>hx ⟨m,hm,e2⟩);rw[q] at this;cases this
 keep:=λp o e hn=>b.keep p o (a.keep p o e hn) (λn hlt e2=>by
  rcases Nat.lt_or_ge n k with z|z
  ·rw[a.agree n z] at e2;exact hn n z e2
  ·have:=a.fresh n z hlt;rw[e2,e] at this;cases this)
 was:=a.was
 there:=λn h=>by
  have:=b.there n (AAM h a.le);rw[a.agree n h] at this;exact this
theorem Ext.out(a:Ext ι k H ι' k' H')(e:H p=some o)(hn:∀n,n<k->ι n≠p):∀n,n<k'->ι' n≠p:=λn h e2=>by
 rcases Nat.lt_or_ge n k with z|z
 ·rw[a.agree n z] at e2;exact hn n z e2
 ·have:=a.fresh n z h;rw[e2,e] at this;cases this
theorem Muts.ne(a:Muts ι k H)(e:H p=some o)(hm:V1 o=false):∀n,n<k->ι n≠p:=λn hn e2=>by
 obtain⟨o',q,h⟩:=a n hn;rw[e2,e] at q;cases q;rw[hm] at h;cases h
theorem G3(a:Ext ι k H ι' k' H')(h:SqT K H p vs):SqT K H' p vs:=by
 rcases h with h|h
 ·rcases h with h|⟨o,h⟩
  ·exact .inl (.inl (a.keep p _ h (a.was.ne h rfl)))
  ·exact .inl (.inr ⟨o,a.keep p _ h (a.was.ne h rfl)⟩)
 ·exact .inr h
theorem J4(a:Ext ι k H ι' k' H')(h:ScrAt K H p vs):ScrAt K H' p vs:=by
 rcases h with ⟨o,h⟩|h
 ·exact .inl ⟨o,a.keep p _ h (a.was.ne h rfl)⟩
 ·exact .inr h
mutual
theorem Is.ext(a:Ext ι k H ι' k' H'):∀{d:D} {v:V},Is K ι k H d v->Is K ι' k' H' d v
 | .non,_,h=>by unfold Is at h ⊢;exact h
 | .bl _,_,h=>by unfold Is at h ⊢;exact h
 | .int _,_,h=>by unfold Is at h ⊢;exact h
 | .str _,_,h=>by unfold Is at h ⊢;exact h
 | .ty _,_,h=>by unfold Is at h ⊢;exact h
 | .scr ns,_,h=>by
  unfold Is at h ⊢;obtain⟨p,rfl,h⟩:=h;exact⟨p,rfl,J4 a h⟩
 | .tup ds,_,h=>by
  unfold Is at h ⊢;obtain⟨p,vs,rfl,h1,h2⟩:=h;exact⟨p,vs,rfl,G3 a h1,IsL.ext a h2⟩
 | .lst ds,_,h=>by
  unfold Is at h ⊢;obtain⟨p,vs,rfl,h1,hn,h2⟩:=h;exact⟨p,vs,rfl,a.keep p _ h1 hn,a.out h1 hn,IsL.ext a h2⟩
 | .ref n,_,h=>by
  unfold Is at h ⊢;obtain⟨h,rfl⟩:=h;exact⟨AAM h a.le,by rw[a.agree n h]⟩
theorem IsL.ext(a:Ext ι k H ι' k' H'):∀{ds:List D} {vs:List V},IsL K ι k H ds vs->IsL K ι' k' H' ds vs
 |[],_,h=>by unfold IsL at h ⊢;exact h
 |_::_,_,h=>by
  unfold IsL at h ⊢;obtain⟨v,vs',rfl,h1,h2⟩:=h;exact⟨v,vs',rfl,Is.ext a h1,IsL.ext a h2⟩
end
noncomputable def KVs(K:KW)(ι:Nat->Addr)(k:Nat)(H:Hp):List (Key×D)->List (Key×V)->Prop
 |[],r=>r=[]
 |(y,d)::l,r=>∃v r',r=(y,v)::r'/\Is K ι k H d v/\KVs K ι k H l r'
theorem KVs.ext(a:Ext ι k H ι' k' H'):∀{l:List (Key×D)} {r:List (Key×V)},KVs K ι k H l r->KVs K ι' k' H' l r
 |[],_,h=>h
 |(_,_)::_,_,h=>by
  obtain⟨v,r',rfl,h1,h2⟩:=h;exact⟨v,r',rfl,h1.ext a,h2.ext a⟩
noncomputable def csD(c:Cs):D:=.tup [.int c.1,.int c.2.1,.tup (c.2.2.map D.int)]
noncomputable def CVs(K:KW)(ι:Nat->Addr)(k:Nat)(H:Hp):List (Cs×D)->List (Cs×Addr×V)->Prop
 |[],r=>r=[]
 |(y,d)::l,r=>∃a v r',r=(y,a,v)::r'/\Is K ι k H (csD y) (.ref a)/\Is K ι k H d v/\CVs K ι k H l r'
theorem CVs.ext(a:Ext ι k H ι' k' H'):∀{l:List (Cs×D)} {r:List (Cs×Addr×V)},CVs K ι k H l r->CVs K ι' k' H' l r
 |[],_,h=>h
 |(_,_)::_,_,h=>by
  obtain⟨b,v,r',rfl,h1,h2,h3⟩:=h;exact⟨b,v,r',rfl,h1.ext a,h2.ext a,h3.ext a⟩
noncomputable def FVs(K:KW)(ι:Nat->Addr)(k:Nat)(H:Hp):List (Str×D)->List (Str×V)->Prop
 |[],r=>r=[]
 |(y,d)::l,r=>∃v r',r=(y,v)::r'/\Is K ι k H d v/\FVs K ι k H l r'
theorem FVs.ext(a:Ext ι k H ι' k' H'):∀{l:List (Str×D)} {r:List (Str×V)},FVs K ι k H l r->FVs K ι' k' H' l r
 |[],_,h=>h
 |(_,_)::_,_,h=>by
  obtain⟨v,r',rfl,h1,h2⟩:=h;exact⟨v,r',rfl,h1.ext a,h2.ext a⟩
mutual
def hD(w:World):D->Int
 | .int i=>hashInt i
 | .str x=>hashStr w x
 | .tup ks=>reduceHash (Builtin.Tuple.tupleHashOf (hDs w ks))
 |_=>0xFCA86420
def hDs(w:World):List D->List Int
 |[]=>[]
 |k::ks=>hD w k::hDs w ks
end
noncomputable def dR(w:World)(p:Addr)(l:List (D×Addr×V)):HO:=.ext λh=>∃(us:List Value) (o:Obj) (es:Array DictEntry) (ep:Nat),Vals (l.map (·.2.2)) us/\h.get? p=some o/\o.ExactDict/\o.data=.dict es ep /\
 es.toList=(l.zip us).map (λx=>{ key:=.ref x.1.2.1,hash:=hD w x.1.1,val:=x.2 })/\(l.map (·.1)).Nodup/\l.length<=sizeLine/\(p==sysModules)=false
mutual
def Kz:D->Bool
 | .non=>true
 | .int _=>true
 | .str _=>true
 | .tup ds=>KzL ds
 |_=>false
def KzL:List D->Bool
 |[]=>true
 |d::ds=>Kz d&&KzL ds
end
mutual
def dX:D->Nat
 | .tup ks=>Yx ks+1
 |_=>0
def Yx:List D->Nat
 |[]=>0
 |k::ks=>max (dX k) (Yx ks)
end
noncomputable def PVs(K:KW)(ι:Nat->Addr)(k:Nat)(H:Hp):List (D×D)->List (D×Addr×V)->Prop
 |[],r=>r=[]
 |(y,d)::l,r=>∃a v r',r=(y,a,v)::r'/\(Kz y=true/\dX y<=8/\Is K ι k H y (.ref a))/\Is K ι k H d v/\PVs K ι k H l r'
theorem PVs.ext(a:Ext ι k H ι' k' H'):∀{l:List (D×D)} {r:List (D×Addr×V)},PVs K ι k H l r->PVs K ι' k' H' l r
 |[],_,h=>h
 |(_,_)::_,_,h=>by
  obtain⟨b,v,r',rfl,h1,h2,h3⟩:=h;exact⟨b,v,r',rfl,⟨h1.1,h1.2.1,h1.2.2.ext a⟩,h2.ext a,h3.ext a⟩
def ClsAt(K:PySem.W.Frag)(c:Str)(C:Addr):Prop:=PySem.W.nsIn K mainGlobals c=some (some (.ref C))
noncomputable def eW(p C:Addr)(dx:Option Addr):HO:=.ext λh=>∃oe vs,h.get? p=some oe/\oe.cls=.ref C/\oe.dict=dx/\oe.data=.fields vs
def ee(H:Hp)(n:Option Nat)(dx:Option Addr):Prop:=match n with
 |none=>dx=none
 |some i=>∃d,dx=some d/\H d=some (.xd [("at",.int (i:Int))])
noncomputable def ObjIs(K:KW)(ι:Nat->Addr)(k:Nat)(H:Hp)(p:Addr):MO->HO->Prop
 | .lst ds,o=>∃vs,o=.lst vs/\IsL K ι k H ds vs
 | .dK l,o=>∃r,o=.dK r/\KVs K ι k H l r
 | .dC l,o=>∃r,o=dS p r/\CVs K ι k H l r
 | .ins c l,o=>∃C dx r,o=.ins C dx r/\ClsAt K c C/\H dx=some (.own p)/\FVs K ι k H l r
 | .dP l,o=>∃r,o=dR K.w p r/\PVs K ι k H l r
 | .exc c n,o=>∃C dx,o=eW p C dx/\ClsAt K c C/\ee H n dx
structure RelH(K:KW)(ι:Nat->Addr)(μ:Mh)(H:Hp):Prop where
 inj:∀i j,i<μ.length->j<μ.length->ι i=ι j->i=j
 obj:∀n o,μ[n]?=some o->∃u,H (ι n)=some u/\ObjIs K ι μ.length H (ι n) o u
theorem ObjIs.mut(h:ObjIs K ι k H p o u):V1 u=true:=by
 cases o with
 |lst ds=>obtain⟨vs,rfl,_⟩:=h;rfl
 |dK l=>obtain⟨r,rfl,_⟩:=h;rfl
 |dC l=>obtain⟨r,rfl,_⟩:=h;rfl
 |ins c l=>obtain⟨C,dx,r,rfl,_⟩:=h;rfl
 |dP l=>obtain⟨r,rfl,_⟩:=h;rfl
 |exc c n=>obtain⟨C,dx,rfl,_⟩:=h;rfl
theorem ObjIs.ext(a:Ext ι k H ι' k' H')(h:ObjIs K ι k H p o u):ObjIs K ι' k' H' p o u:=by
 cases o with
 |lst ds=>obtain⟨vs,rfl,h⟩:=h;exact⟨vs,rfl,h.ext a⟩
 |dK l=>obtain⟨r,rfl,h⟩:=h;exact⟨r,rfl,h.ext a⟩
 |dC l=>obtain⟨r,rfl,h⟩:=h;exact⟨r,rfl,h.ext a⟩
 |ins c l=>obtain⟨C,dx,r,rfl,h0,h1,h⟩:=h;exact⟨C,dx,r,rfl,h0,a.keep dx _ h1 (a.was.ne h1 rfl),h.ext a⟩
 |dP l=>obtain⟨r,rfl,h⟩:=h;exact⟨r,rfl,h.ext a⟩
 |exc c n=>
  obtain⟨C,dx,rfl,h0,h1⟩:=h;refine⟨C,dx,rfl,h0,?_⟩;cases n with
  |none=>exact h1
  |some i=>
   obtain⟨d,e,q⟩:=h1;exact⟨d,e,a.keep d _ q (a.was.ne q rfl)⟩
theorem RelH.muts(r:RelH K ι μ H):Muts ι μ.length H:=λn hn=>by
 obtain⟨u,e,h⟩:=r.obj n μ[n] (by simp[hn]);exact⟨u,e,h.mut⟩
theorem RelH.ext0(r:RelH K ι μ H):Ext ι μ.length H ι μ.length H:=Ext.refl r.muts
theorem RelH.laid(r:RelH K ι μ H)(o:HO)(hp:H p=none):Ext ι μ.length H ι μ.length (upd H p o)/\RelH K ι μ (upd H p o):=by
 have kp:∀q u,H q=some u->upd H p o q=some u:=λq u e=>by rw[BG (DM e hp)];exact e
 have a:Ext ι μ.length H ι μ.length (upd H p o):=⟨AAE _,λ_ _=>rfl,λn h1 h2=>absurd h1 (by omega),λq u e _=>kp q u e,r.muts,λn hn=>by
  obtain⟨u,e,h⟩:=r.muts n hn;exact⟨u,kp _ _ e,h⟩⟩
 refine⟨a,r.inj,λn o' e=>?_⟩;obtain⟨u,e1,h⟩:=r.obj n o' e;exact⟨u,kp _ _ e1,h.ext a⟩
theorem RelH.grown(r:RelH K ι μ H)(hp:H p=none)(h:ObjIs K ι μ.length H p m o):
  ∃ι',Ext ι μ.length H ι' (μ++[m]).length (upd H p o)/\RelH K ι' (μ++[m]) (upd H p o)/\ι' μ.length=p:=by
 have kp:∀q u,H q=some u->upd H p o q=some u:=λq u e=>by rw[BG (DM e hp)];exact e
 let ι':Nat->Addr:=λn=>if n=μ.length then p else ι n
 have e0:ι' μ.length=p:=if_pos rfl;have e1:∀n,n<μ.length->ι' n=ι n:=λn hn=>if_neg (by omega);have a:Ext ι μ.length H ι' (μ++[m]).length (upd H p o):=⟨by simp,e1,λn h1 h2=>by
   have:n=μ.length:=by simp at h2;omega
   rw[this,e0];exact hp,λq u e _=>kp q u e,r.muts,λn hn=>by
  obtain⟨u,e,h⟩:=r.muts n hn;exact⟨u,kp _ _ e,h⟩⟩
 refine⟨ι',a,⟨λi j hi hj e=>?_,λn o' e=>?_⟩,e0⟩
 ·simp at hi hj;have old:∀i,i<μ.length->ι' i≠p:=λi hi e=>by
   obtain⟨u,q,_⟩:=r.muts i hi;rw[←e1 i hi,e,hp] at q;cases q
  rcases Nat.lt_or_ge i μ.length with zi|zi<;>rcases Nat.lt_or_ge j μ.length with zj|zj
  ·rw[e1 i zi,e1 j zj] at e;exact r.inj i j zi zj e
  ·have:j=μ.length:=by omega
   subst this;rw[e0] at e;exact absurd e (old i zi)
  ·have:i=μ.length:=by omega
   subst this;rw[e0] at e;exact absurd e.symm (old j zj)
  ·omega
 ·rcases Nat.lt_or_ge n μ.length with z|z
  ·rw[AAS z] at e;obtain⟨u,q,hq⟩:=r.obj n o' e;exact⟨u,by rw[e1 n z];exact kp _ _ q,by rw[e1 n z];exact hq.ext a⟩
  ·have hn:n=μ.length:=by
    have:=(AAT.mp e).1;simp at this;omega
   subst hn;rw[AAR (AAE _),Nat.sub_self] at e;simp at e;subst e;exact⟨o,by rw[e0,Bt],by rw[e0];exact h.ext a⟩
theorem RelH.changed(r:RelH K ι μ H)(hn:n<μ.length)(h:ObjIs K ι μ.length H (ι n) m o):
  Ext ι μ.length H ι (μ.set n m).length (upd H (ι n) o)/\RelH K ι (μ.set n m) (upd H (ι n) o):=by
 have ne:∀i,i<μ.length->i≠n->ι i≠ι n:=λi hi hne e=>hne (r.inj i n hi hn e);have a:Ext ι μ.length H ι (μ.set n m).length (upd H (ι n) o):=⟨by simp,λ_ _=>rfl,λi h1 h2=>by simp at h2;omega,λq u e hq=>by rw[BG (λz=>hq n hn z.symm)];exact e,r.muts,λi hi=>by
  by_cases z:i=n
  ·subst z;exact⟨o,Bt,h.mut⟩
  ·obtain⟨u,e,hu⟩:=r.muts i hi;exact⟨u,by rw[BG (ne i hi z)];exact e,hu⟩⟩
 refine⟨a,λi j hi hj=>r.inj i j (by simpa using hi) (by simpa using hj),λi o' e=>?_⟩;by_cases z:i=n
 ·subst z;rw[List.getElem?_set_self hn] at e;cases e;exact⟨o,Bt,h.ext a⟩
 ·rw[AAm (Ne.symm z)] at e;have hi:i<μ.length:=(AAT.mp e).1;obtain⟨u,q,hq⟩:=r.obj i o' e;exact⟨u,by rw[BG (ne i hi z)];exact q,hq.ext a⟩
structure RelS(K:KW)(ι:Nat->Addr)(k:Nat)(H:Hp)(τ:Sl)(σ:St):Prop where
 len:σ.length=τ.length
 get:∀(i:Nat) (d:D),τ[i]?=some (some d)->∃v,σ[i]?=some (some v)/\Is K ι k H d v
theorem RelS.ext(a:Ext ι k H ι' k' H')(r:RelS K ι k H τ σ):RelS K ι' k' H' τ σ:=⟨r.len,λi d e=>by
 obtain⟨v,e1,h⟩:=r.get i d e;exact⟨v,e1,h.ext a⟩⟩
theorem RelS.set(r:RelS K ι k H τ σ)(i:Nat)(h:Is K ι k H d v):RelS K ι k H (τ.set i (some d)) (σ.set i (some v)):=⟨by simp[r.len],λj e q=>by
 by_cases z:i=j
 ·subst z;have hi:i<τ.length:=by
   have:=(AAT.mp q).1;simpa using this
  rw[List.getElem?_set_self hi] at q;cases q;exact⟨v,List.getElem?_set_self (by rw[r.len];exact hi),h⟩
 ·rw[AAm z] at q;obtain⟨u,e1,hu⟩:=r.get j e q;exact⟨u,by rw[AAm z];exact e1,hu⟩⟩
end
end Mi
namespace Mi
open PySem L2
noncomputable abbrev Exn:=Str×Option Nat
inductive Fl where
 |next|brk|cont|rt (d:D)|xc (x:Exn)
abbrev Aft(K:KW)(ι:Nat->Addr)(μ:Mh)(H:Hp)(μ':Mh)(φ:(Nat->Addr)->Hp->Prop):Prop:=
 ∀ι' H',Ext ι μ.length H ι' μ'.length H'->RelH K ι' μ' H'->φ ι' H'
noncomputable def tE(K:KW)(m:Sl->M D):TE:=λσ H Q=>∃ι μ τ d μ',RelH K ι μ H/\RelS K ι μ.length H τ σ/\m τ μ=some (d,μ') /\
 Aft K ι μ H μ' λι' H'=>∀v,Is K ι' μ'.length H' d v->Q v H'
noncomputable def tT(K:KW)(m:Sl->M Bool):TT:=λσ H Q=>∃ι μ τ b μ',RelH K ι μ H/\RelS K ι μ.length H τ σ/\m τ μ=some (b,μ') /\
 Aft K ι μ H μ' λ_ H'=>Q b H'
noncomputable def tL(K:KW)(m:Sl->M (List D)):TA:=λσ H Q=>∃ι μ τ ds μ',RelH K ι μ H/\RelS K ι μ.length H τ σ/\m τ μ=some (ds,μ') /\
 Aft K ι μ H μ' λι' H'=>∀vs,IsL K ι' μ'.length H' ds vs->Q vs H'
noncomputable def FlP(K:KW)(Dn:Wa)(ι':Nat->Addr)(k:Nat)(H':Hp)(τ':Sl)(σ':St):Fl->Prop
 | .next=>Dn.nx σ' H'
 | .brk=>Dn.bk σ' H'
 | .cont=>Dn.ct σ' H'
 | .rt d=>∀v,Is K ι' k H' d v->Dn.rt v H'
 | .xc _=>False
noncomputable def tSt(K:KW)(m:Sl->M (Fl×Sl)):TS:=λDn σ H=>∃ι μ τ f τ' μ',RelH K ι μ H/\RelS K ι μ.length H τ σ/\m τ μ=some ((f,τ'),μ') /\
 Aft K ι μ H μ' λι' H'=>∀σ',RelS K ι' μ'.length H' τ' σ'->FlP K Dn ι' μ'.length H' τ' σ' f
structure RE(X:Cx)(e:Expr)(m:Sl->M D):Prop where
 pe:PE X e (tE X.kw m)
structure RT(X:Cx)(e:Expr)(m:Sl->M Bool):Prop where
 pe:PT X e (tT X.kw m)
structure RW(X:Cx)(e:Expr)(m:Sl->M Bool):Prop where
 pe:PW X e (tT X.kw m)
structure RA(X:Cx)(es:List Expr)(m:Sl->M (List D)):Prop where
 pe:PA X es (tL X.kw m)
structure RS(X:Cx)(st:Stmt)(m:Sl->M (Fl×Sl)):Prop where
 pe:PS X st (tSt X.kw m)
structure RSs(X:Cx)(st:List Stmt)(m:Sl->M (Fl×Sl)):Prop where
 pe:PSs X st (tSt X.kw m)
section
variable{X:Cx}{e a b c:Expr}{es:List Expr}{pos:Pos}
theorem PE.wk{t t':TE}(h:PE X e t)(w:∀σ H Q,t' σ H Q->t σ H Q):PE X e t':=λpins s σ H Q I q=>h pins s σ H Q I (w σ H Q q)
theorem RE.wk{m:Sl->M D}{t:TE}(h:PE X e t)(w:∀σ H Q,tE X.kw m σ H Q->t σ H Q):RE X e m:=⟨PE.wk h w⟩
theorem PT.wk{t t':TT}(h:PT X e t)(w:∀σ H Q,t' σ H Q->t σ H Q):PT X e t':=λpins s σ H Q I q=>h pins s σ H Q I (w σ H Q q)
theorem RT.wk{m:Sl->M Bool}{t:TT}(h:PT X e t)(w:∀σ H Q,tT X.kw m σ H Q->t σ H Q):RT X e m:=⟨PT.wk h w⟩
theorem PW.wk{t t':TT}(h:PW X e t)(w:∀σ H Q,t' σ H Q->t σ H Q):PW X e t':=λwh pins s σ H Q I q=>h wh pins s σ H Q I (w σ H Q q)
theorem RW.wk{m:Sl->M Bool}{t:TT}(h:PW X e t)(w:∀σ H Q,tT X.kw m σ H Q->t σ H Q):RW X e m:=⟨PW.wk h w⟩
theorem PA.wk{t t':TA}(h:PA X es t)(w:∀σ H Q,t' σ H Q->t σ H Q):PA X es t':=λp pins s σ H Q I q=>h p pins s σ H Q I (w σ H Q q)
theorem RA.wk{m:Sl->M (List D)}{t:TA}(h:PA X es t)(w:∀σ H Q,tL X.kw m σ H Q->t σ H Q):RA X es m:=⟨PA.wk h w⟩
theorem PS.wk{st:Stmt}{t t':TS}(h:PS X st t)(w:∀D σ H,t' D σ H->t D σ H):PS X st t':=λpins s σ H D I q=>h pins s σ H D I (w D σ H q)
theorem RS.wk{m:Sl->M (Fl×Sl)}{st:Stmt}{t:TS}(h:PS X st t)(w:∀D σ H,tSt X.kw m D σ H->t D σ H):RS X st m:=⟨PS.wk h w⟩
theorem PSs.wk{st:List Stmt}{t t':TS}(h:PSs X st t)(w:∀D σ H,t' D σ H->t D σ H):PSs X st t':=λpins s σ H D I q=>h pins s σ H D I (w D σ H q)
theorem RSs.wk{m:Sl->M (Fl×Sl)}{st:List Stmt}{t:TS}(h:PSs X st t)(w:∀D σ H,tSt X.kw m D σ H->t D σ H):RSs X st m:=⟨PSs.wk h w⟩
theorem OpR.wk{f:Value->Value->Sem Value}{r r':R2}(h:OpR X f r)(w:∀x y H Q,r' x y H Q->r x y H Q):OpR X f r':=λpins s σ H x y v u Q I rx ry q=>h pins s σ H x y v u Q I rx ry (w x y H Q q)
noncomputable def NP:Expr->Bool
 | .Starred _ _=>true
 |_=>false
theorem BH{e:Expr}{es:List Expr}{env:Env}(h:NP e=false):starEach (e::es) env=(false,eval e env)::starEach es env:=by
 cases e<;>first|rfl|cases h
theorem BY{pos:Pos}{env:Env}:∀{es:List Expr},(es.all λe=>!NP e)=true->(backTo pos (starEach es env)).any (·.1)=false
 |[],_=>rfl
 |e::es,h=>by
  rw[List.all_cons,Bool.and_eq_true] at h;have h1:NP e=false:=by simpa using h.1
  have ih:=BY (pos:=pos) (env:=env) h.2;rw[BH h1];unfold backTo at ih ⊢;simpa using ih
noncomputable def AD(i:Nat):Sl->M D:=λτ μ=>match τ[i]? with
 |some (some d)=>some (d,μ)
 |_=>none
noncomputable def mC(d:D):Sl->M D:=λ_=>ret d
theorem AB(i:Nat){x:Str}(hN:X.N[i]?=some x:=by rfl)(hv:Vis X.env.scope x:=by first|exact Or.inl rfl|exact Or.inr (Or.inl rfl)|exact Or.inr (Or.inr rfl))(hd:(x==("__debug__" : Str))=false:=by decide)
  (hcd:(x==("__classdict__" : Str))=false:=by decide):RE X (.Name x pos) (AD i):=RE.wk (Zo hN hv hd hcd) λσ H Q h=>by
 obtain⟨ι,μ,τ,d,μ',R,S,e,q⟩:=h;unfold AD at e;split at e
 ·rename_i d' ed;cases e;obtain⟨v,e1,h1⟩:=S.get i _ ed;exact⟨v,e1,q ι H R.ext0 R v h1⟩
 ·cases e
theorem SX{t:TE}{d:D}{v:V}(h:PE X e (tC v))(hd:∀ι k H,Is X.kw ι k H d v):RE X e (mC d):=RE.wk h λσ H Q h=>by
 obtain⟨ι,μ,τ,d,μ',R,S,e,q⟩:=h;cases e;exact q ι H R.ext0 R v (hd _ _ _)
theorem AH{i j}:RE X (.Constant (.int i) j pos) (mC (.int i)):=SX (t:=λ_ _ _=>True) Zu λ_ _ _=>by unfold Is;rfl
theorem L6{i j}:RE X (.Constant (.bool i) j pos) (mC (.bl i)):=SX (t:=λ_ _ _=>True) cS λ_ _ _=>by unfold Is;rfl
theorem Bv{j}:RE X (.Constant .none j pos) (mC .non):=SX (t:=λ_ _ _=>True) Zt λ_ _ _=>by unfold Is;rfl
theorem AL{i j}:RE X (.Constant (.str i) j pos) (mC (.str i)):=SX (t:=λ_ _ _=>True) Zq λ_ _ _=>by unfold Is;rfl
theorem XG{x:Str}{v:V}{u:Value}{d:D}(hm:X.mg x=some u)(r:RelV v u)(hd:∀ι k H,Is X.kw ι k H d v)(hg:Gl X x:=by rfl)(hdb:(x==("__debug__" : Str))=false:=by decide):RE X (.Name x pos) (mC d):=
 SX (t:=λ_ _ _=>True) (J5 hg hm r hdb) hd
noncomputable def mOp(g:D->D->M D)(ma mb:Sl->M D):Sl->M D:=λτ=>bnd (ma τ) λx=>bnd (mb τ) λy=>g x y
noncomputable def mUn(g:D->M D)(ma:Sl->M D):Sl->M D:=λτ=>bnd (ma τ) g
noncomputable def rM(K:KW)(g:D->D->M D):R2:=λx y H Q=>∃ι μ a b d μ',RelH K ι μ H/\Is K ι μ.length H a x/\Is K ι μ.length H b y/\g a b μ=some (d,μ') /\
 Aft K ι μ H μ' λι' H'=>∀v,Is K ι' μ'.length H' d v->Q v H'
noncomputable def rM1(K:KW)(g:D->M D):V->Hp->VK->Prop:=λx H Q=>∃ι μ a d μ',RelH K ι μ H/\Is K ι μ.length H a x/\g a μ=some (d,μ') /\
 Aft K ι μ H μ' λι' H'=>∀v,Is K ι' μ'.length H' d v->Q v H'
noncomputable def rMA(K:KW)(g:List D->M D):List V->Hp->VK->Prop:=λxs H Q=>∃ι μ as d μ',RelH K ι μ H/\IsL K ι μ.length H as xs/\g as μ=some (d,μ') /\
 Aft K ι μ H μ' λι' H'=>∀v,Is K ι' μ'.length H' d v->Q v H'
theorem Qh{K:KW}{g:D->D->M D}{ma mb:Sl->M D}{σ:St}{H:Hp}{Q:VK}(h:tE K (mOp g ma mb) σ H Q):tOp (rM K g) (tE K ma) (tE K mb) σ H Q:=by
 obtain⟨ι,μ,τ,d,μ',R,S,e,q⟩:=h;obtain⟨x,μ1,e1,e⟩:=AI e;obtain⟨y,μ2,e2,e3⟩:=AI e;refine⟨ι,μ,τ,x,μ1,R,S,e1,λι1 H1 E1 R1 v1 i1=>?_⟩;refine⟨ι1,μ1,τ,y,μ2,R1,S.ext E1,e2,λι2 H2 E2 R2 v2 i2=>?_⟩;exact⟨ι2,μ2,x,y,d,μ',R2,i1.ext E2,i2,e3,λι3 H3 E3 R3 v3 i3=>q ι3 H3 ((E1.trans E2).trans E3) R3 v3 i3⟩
theorem be{K:KW}{g:D->M D}{ma:Sl->M D}{σ:St}{H:Hp}{Q:VK}(h:tE K (mUn g ma) σ H Q):tUn (rM1 K g) (tE K ma) σ H Q:=by
 obtain⟨ι,μ,τ,d,μ',R,S,e,q⟩:=h;obtain⟨x,μ1,e1,e⟩:=AI e;refine⟨ι,μ,τ,x,μ1,R,S,e1,λι1 H1 E1 R1 v1 i1=>?_⟩;exact⟨ι1,μ1,x,d,μ',R1,i1,e,λι3 H3 E3 R3 v3 i3=>q ι3 H3 (E1.trans E3) R3 v3 i3⟩
theorem Ao{op:Operator}{g:D->D->M D}{ma mb:Sl->M D}(ho:OpR X (binaryOp op) (rM X.kw g))(ha:RE X a ma)(hb:RE X b mb):RE X (.BinOp a op b pos) (mOp g ma mb):=RE.wk (cP ho ha.pe hb.pe) λ_ _ _ h=>Qh h
theorem Ux{op:UnaryOp}{g:D->M D}{ma:Sl->M D}(ho:UnR X (unaryOp op) (rM1 X.kw g))(ha:RE X a ma):RE X (.UnaryOp op a pos) (mUn g ma):=RE.wk (cN ho ha.pe) λ_ _ _ h=>be h
theorem Bo{op:CmpOp}{g:D->D->M D}{ma mb:Sl->M D}(ho:OpR X (compareOp op) (rM X.kw g))(ha:RE X a ma)(hb:RE X b mb)(hm:behindInMarks op b=false:=by first|exact Vb _|rfl):RE X (.Compare a [op] [b] pos) (mOp g ma mb):=
 RE.wk (Xf ho ha.pe hb.pe hm) λ_ _ _ h=>Qh h
theorem AV{g:D->D->M D}{ma mb:Sl->M D}(ho:IxR X (rM X.kw g))(ha:RE X a ma)(hb:RE X b mb)(hs:R6 b:=by exact λ_ _=>rfl):RE X (.Subscript a b pos) (mOp g ma mb):=RE.wk (cR ho ha.pe hb.pe hs) λ_ _ _ h=>Qh h
noncomputable def asB:D->M Bool
 | .bl b=>ret b
 |_=>BO
noncomputable def AR(m:Sl->M D):Sl->M Bool:=λτ=>bnd (m τ) asB
theorem M0{K:KW}{m:Sl->M D}{σ:St}{H:Hp}{Q:Bool->Hp->Prop}(h:tT K (AR m) σ H Q):tE K m σ H λx H'=>∃k,x=.bl k/\Q k H':=by
 obtain⟨ι,μ,τ,b,μ',R,S,e,q⟩:=h;obtain⟨x,μ1,e1,e⟩:=AI e;refine⟨ι,μ,τ,x,μ1,R,S,e1,λι1 H1 E1 R1 v1 i1=>?_⟩;cases x with
 |bl k=>
  cases e;unfold Is at i1;exact⟨b,i1,q ι1 H1 E1 R1⟩
 |_=>cases e
theorem AZ{op:CmpOp}{g:D->D->M D}{ma mb:Sl->M D}(ho:OpR X (compareOp op) (rM X.kw g))(ha:RE X a ma)(hb:RE X b mb)(hm:behindInMarks op b=false:=by first|exact Vb _|rfl):RT X (.Compare a [op] [b] pos) (AR (mOp g ma mb)):=
 RT.wk (XR ho ha.pe hb.pe hm) λσ H Q h=>Qh (Q:=λx H'=>∃k,x=.bl k/\Q k H') (M0 h)
theorem DW{m:Sl->M D}(h:RE X e m)(he:∀whole,isTrue e X.env whole=(do let v ←whole;standAt e.pos;holding [v] (truthy v)):=by intro _;rfl):RT X e (AR m):=
 RT.wk (Zd h.pe he) λ_ _ _ q=>M0 q
noncomputable def GH(ma mb:Sl->M Bool):Sl->M Bool:=λτ=>bnd (ma τ) λx=>if x=true then mb τ else ret false
noncomputable def mOr(ma mb:Sl->M Bool):Sl->M Bool:=λτ=>bnd (ma τ) λx=>if x=true then ret true else mb τ
noncomputable def Fa(ma:Sl->M Bool):Sl->M Bool:=λτ=>bnd (ma τ) λx=>ret (!x)
theorem FK{ma:Sl->M Bool}(ha:RT X a ma):RT X (.UnaryOp .Not a pos) (Fa ma):=RT.wk (Ze ha.pe) λσ H Q h=>by
 obtain⟨ι,μ,τ,b,μ',R,S,e,q⟩:=h;obtain⟨x,μ1,e1,e⟩:=AI e;cases e;exact⟨ι,μ,τ,x,_,R,S,e1,q⟩
theorem Fx{ma:Sl->M Bool}(ha:RT X a ma):RW X (.BoolOp .And [a] pos) ma:=⟨XM ha.pe⟩
theorem FJ{ma:Sl->M Bool}(ha:RT X a ma):RW X (.BoolOp .Or [a] pos) ma:=⟨Zb ha.pe⟩
theorem He{rest:List Expr}{ma mb:Sl->M Bool}(ha:RT X a ma)(hb:RW X (.BoolOp .And (b::rest) pos) mb):RW X (.BoolOp .And (a::b::rest) pos) (GH ma mb):=RW.wk (Zc ha.pe hb.pe) λσ H Q h=>by
 obtain⟨ι,μ,τ,z,μ',R,S,e,q⟩:=h;obtain⟨x,μ1,e1,e⟩:=AI e;refine⟨ι,μ,τ,x,μ1,R,S,e1,λι1 H1 E1 R1=>?_⟩;cases x with
 |true=>exact⟨ι1,μ1,τ,z,μ',R1,S.ext E1,e,λι2 H2 E2 R2=>q ι2 H2 (E1.trans E2) R2⟩
 |false=>cases e;exact q ι1 H1 E1 R1
theorem GE{rest:List Expr}{ma mb:Sl->M Bool}(ha:RT X a ma)(hb:RW X (.BoolOp .Or (b::rest) pos) mb):RW X (.BoolOp .Or (a::b::rest) pos) (mOr ma mb):=RW.wk (cJ ha.pe hb.pe) λσ H Q h=>by
 obtain⟨ι,μ,τ,z,μ',R,S,e,q⟩:=h;obtain⟨x,μ1,e1,e⟩:=AI e;refine⟨ι,μ,τ,x,μ1,R,S,e1,λι1 H1 E1 R1=>?_⟩;cases x with
 |true=>cases e;exact q ι1 H1 E1 R1
 |false=>exact⟨ι1,μ1,τ,z,μ',R1,S.ext E1,e,λι2 H2 E2 R2=>q ι2 H2 (E1.trans E2) R2⟩
theorem RW.rt{m:Sl->M Bool}(h:RW X e m):RT X e m:=⟨h.pe.pt⟩
noncomputable def mIf(mc:Sl->M Bool)(ma mb:Sl->M D):Sl->M D:=λτ=>bnd (mc τ) λx=>if x=true then ma τ else mb τ
theorem L5{mc:Sl->M Bool}{ma mb:Sl->M D}(hc:RT X c mc)(ha:RE X a ma)(hb:RE X b mb):RE X (.IfExp c a b pos) (mIf mc ma mb):=RE.wk (VO hc.pe ha.pe hb.pe) λσ H Q h=>by
 obtain⟨ι,μ,τ,z,μ',R,S,e,q⟩:=h;obtain⟨x,μ1,e1,e⟩:=AI e;refine⟨ι,μ,τ,x,μ1,R,S,e1,λι1 H1 E1 R1=>?_⟩;cases x with
 |true=>exact⟨ι1,μ1,τ,z,μ',R1,S.ext E1,e,λι2 H2 E2 R2=>q ι2 H2 (E1.trans E2) R2⟩
 |false=>exact⟨ι1,μ1,τ,z,μ',R1,S.ext E1,e,λι2 H2 E2 R2=>q ι2 H2 (E1.trans E2) R2⟩
noncomputable def Dt(ma mb:Sl->M D):Sl->M D:=λτ=>bnd (ma τ) λx=>bnd (asB x) λc=>if c=true then mb τ else ret (.bl false)
noncomputable def Px(ma mb:Sl->M D):Sl->M D:=λτ=>bnd (ma τ) λx=>bnd (asB x) λc=>if c=true then ret (.bl true) else mb τ
noncomputable def MH(ma:Sl->M D):Sl->M D:=λτ=>bnd (ma τ) λx=>bnd (asB x) λc=>ret (.bl (!c))
theorem Ir{x:D}{μ μ1:Mh}{c:Bool}(h:asB x μ=some (c,μ1)):x=.bl c/\μ1=μ:=by
 cases x with
 |bl k=>cases h;exact⟨rfl,rfl⟩
 |_=>cases h
theorem El{op}{m:Sl->M D}(h:RE X a m):RE X (.BoolOp op [a] pos) m:=⟨Zr h.pe⟩
theorem Dv{rest:List Expr}{ma mb:Sl->M D}(ha:RE X a ma)(hb:RE X (.BoolOp .And (b::rest) pos) mb):RE X (.BoolOp .And (a::b::rest) pos) (Dt ma mb):=RE.wk (Zy ha.pe hb.pe) λσ H Q h=>by
 obtain⟨ι,μ,τ,z,μ',R,S,e,q⟩:=h;obtain⟨x,μ1,e1,e⟩:=AI e;obtain⟨c,μ2,e2,e⟩:=AI e;obtain⟨rfl,rfl⟩:=Ir e2;refine⟨ι,μ,τ,_,μ2,R,S,e1,λι1 H1 E1 R1 v1 i1=>⟨c,by unfold Is at i1;exact i1,?_⟩⟩;cases c with
 |true=>exact⟨ι1,μ2,τ,z,μ',R1,S.ext E1,e,λι2 H2 E2 R2=>q ι2 H2 (E1.trans E2) R2⟩
 |false=>cases e;exact q ι1 H1 E1 R1 _ (by unfold Is;rfl)
theorem bz{rest:List Expr}{ma mb:Sl->M D}(ha:RE X a ma)(hb:RE X (.BoolOp .Or (b::rest) pos) mb):RE X (.BoolOp .Or (a::b::rest) pos) (Px ma mb):=RE.wk (cO ha.pe hb.pe) λσ H Q h=>by
 obtain⟨ι,μ,τ,z,μ',R,S,e,q⟩:=h;obtain⟨x,μ1,e1,e⟩:=AI e;obtain⟨c,μ2,e2,e⟩:=AI e;obtain⟨rfl,rfl⟩:=Ir e2;refine⟨ι,μ,τ,_,μ2,R,S,e1,λι1 H1 E1 R1 v1 i1=>⟨c,by unfold Is at i1;exact i1,?_⟩⟩;cases c with
 |true=>cases e;exact q ι1 H1 E1 R1 _ (by unfold Is;rfl)
 |false=>exact⟨ι1,μ2,τ,z,μ',R1,S.ext E1,e,λι2 H2 E2 R2=>q ι2 H2 (E1.trans E2) R2⟩
theorem Uy{ma:Sl->M D}(ha:RE X a ma):RE X (.UnaryOp .Not a pos) (MH ma):=RE.wk (Zs ha.pe) λσ H Q h=>by
 obtain⟨ι,μ,τ,z,μ',R,S,e,q⟩:=h;obtain⟨x,μ1,e1,e⟩:=AI e;obtain⟨c,μ2,e2,e⟩:=AI e;obtain⟨rfl,rfl⟩:=Ir e2;cases e;exact⟨ι,μ,τ,_,_,R,S,e1,λι1 H1 E1 R1 v1 i1=>⟨c,by unfold Is at i1;exact i1,q ι1 H1 E1 R1 _ (by unfold Is;rfl)⟩⟩
noncomputable def Er(g g':D->D->M D)(ma mb mc:Sl->M D):Sl->M D:=λτ=>bnd (ma τ) λx=>bnd (mb τ) λy=>bnd (g x y) λz=>bnd (asB z) λk=>if k=true then bnd (mc τ) λw=>g' y w else ret (.bl false)
noncomputable def AJ:Sl->M (List D):=λ_=>ret []
noncomputable def AC(m:Sl->M D)(r:Sl->M (List D)):Sl->M (List D):=λτ=>bnd (m τ) λx=>bnd (r τ) λxs=>ret (x::xs)
theorem AE:RA X [] AJ:=RA.wk Po λσ H Q h=>by
 obtain⟨ι,μ,τ,z,μ',R,S,e,q⟩:=h;cases e;exact q ι H R.ext0 R [] .nil
theorem AA{m:Sl->M D}{r:Sl->M (List D)}(h:RE X e m)(hr:RA X es r)(hs:starEach (e::es) X.env=(false,eval e X.env)::starEach es X.env:=by exact BH rfl):RA X (e::es) (AC m r):=RA.wk (NC h.pe hr.pe hs) λσ H Q h=>by
 obtain⟨ι,μ,τ,z,μ',R,S,e,q⟩:=h;obtain⟨x,μ1,e1,e⟩:=AI e;obtain⟨xs,μ2,e2,e⟩:=AI e;cases e;exact⟨ι,μ,τ,x,μ1,R,S,e1,λι1 H1 E1 R1 v1 i1=>⟨ι1,μ1,τ,xs,_,R1,S.ext E1,e2,λι2 H2 E2 R2 vs i2=>q ι2 H2 (E1.trans E2) R2 _ (.cons (i1.ext E2) i2)⟩⟩
noncomputable def lim(n:Nat):M Unit:=λμ=>if n<=sizeLine then some ((),μ) else none
theorem CG{n:Nat}{μ μ1:Mh}{u:Unit}(h:lim n μ=some (u,μ1)):n<=sizeLine/\μ1=μ:=by
 unfold lim at h;split at h
 ·rename_i hn;cases h;exact⟨hn,rfl⟩
 ·cases h
theorem JO{n:Nat}(h:n<=sizeLine)(μ:Mh):lim n μ=some ((),μ):=if_pos h
noncomputable def BU(ds:List D):M D:=bnd (lim ds.length) λ_=>ret (.tup ds)
noncomputable def BE(ds:List D):M D:=bnd (lim ds.length) λ_=>ret (.lst ds)
noncomputable def Dq(ds:List D):M D:=bnd (lim ds.length) λ_=>λμ=>some (.ref μ.length,μ++[.lst ds])
noncomputable def AF(f:List D->M D)(m:Sl->M (List D)):Sl->M D:=λτ=>bnd (m τ) f
theorem RD{K:KW}{ι:Nat->Addr}{μ μ':Mh}{H:Hp}{ds:List D}{vs:List V}{d:D}{Q:VK}(R:RelH K ι μ H)(i:IsL K ι μ.length H ds vs)(e:BU ds μ=some (d,μ'))(q:Aft K ι μ H μ' λι' H'=>∀v,Is K ι' μ'.length H' d v->Q v H'):
  vs.length<=sizeLine/\∀p,H p=none->Q (.ref p) (upd H p (.tup vs)):=by
 obtain⟨u,μ1,e1,e2⟩:=AI e;clear e;obtain⟨hl,e3⟩:=CG e1;cases e2;cases e3;refine⟨by rw[i.length];exact hl,λp hp=>?_⟩;obtain⟨E1,R1⟩:=R.laid (.tup vs) hp;exact q ι _ E1 R1 _ (by unfold Is;exact⟨p,vs,rfl,SqT.of Bt,i.ext E1⟩)
theorem EA{K:KW}{ι:Nat->Addr}{μ μ':Mh}{H:Hp}{ds:List D}{vs:List V}{d:D}{Q:VK}(R:RelH K ι μ H)(i:IsL K ι μ.length H ds vs)(e:BE ds μ=some (d,μ'))(q:Aft K ι μ H μ' λι' H'=>∀v,Is K ι' μ'.length H' d v->Q v H'):
  vs.length<=sizeLine/\∀p,H p=none->Q (.ref p) (upd H p (.lst vs)):=by
 obtain⟨u,μ1,e1,e2⟩:=AI e;clear e;obtain⟨hl,e3⟩:=CG e1;cases e2;cases e3;refine⟨by rw[i.length];exact hl,λp hp=>?_⟩;obtain⟨E1,R1⟩:=R.laid (.lst vs) hp;have ho:∀n,n<μ.length->ι n≠p:=λn hn z=>by
  obtain⟨o,e,_⟩:=R.muts n hn;rw[z,hp] at e;cases e
 exact q ι _ E1 R1 _ (by unfold Is;exact⟨p,vs,rfl,Bt,ho,i.ext E1⟩)
theorem NH{K:KW}{ι:Nat->Addr}{μ μ':Mh}{H:Hp}{ds:List D}{vs:List V}{d:D}{Q:VK}(R:RelH K ι μ H)(i:IsL K ι μ.length H ds vs)(e:Dq ds μ=some (d,μ'))(q:Aft K ι μ H μ' λι' H'=>∀v,Is K ι' μ'.length H' d v->Q v H'):
  vs.length<=sizeLine/\∀p,H p=none->Q (.ref p) (upd H p (.lst vs)):=by
 obtain⟨u,μ1,e1,e2⟩:=AI e;clear e;obtain⟨hl,e3⟩:=CG e1;cases e2;cases e3;refine⟨by rw[i.length];exact hl,λp hp=>?_⟩;obtain⟨ι',E1,R1,e0⟩:=R.grown (m:=.lst ds) hp ⟨vs,rfl,i⟩;exact q ι' _ E1 R1 _ (by unfold Is;exact⟨by simp,by rw[e0]⟩)
theorem Fv{K:KW}{f:List D->M D}{m:Sl->M (List D)}{σ:St}{H:Hp}{Q:VK}{R:List V->Hp->Prop}(h:tE K (AF f m) σ H Q)
  (hf:∀ι μ μ' H ds vs d,RelH K ι μ H->IsL K ι μ.length H ds vs->f ds μ=some (d,μ')->(Aft K ι μ H μ' λι' H'=>∀v,Is K ι' μ'.length H' d v->Q v H')->R vs H):tL K m σ H R:=by
 obtain⟨ι,μ,τ,z,μ',S1,S,e,q⟩:=h;obtain⟨ds,μ1,e1,e⟩:=AI e;exact⟨ι,μ,τ,ds,μ1,S1,S,e1,λι1 H1 E1 R1 vs iv=>hf ι1 μ1 μ' H1 ds vs z R1 iv e λι2 H2 E2 R2=>q ι2 H2 (E1.trans E2) R2⟩
theorem A4{x1}{m:Sl->M (List D)}(h:RA X es m):RE X (.Tuple es x1 pos) (AF BU m):=RE.wk (Zp h.pe) λ_ _ _ q=>Fv q λ_ _ _ _ _ _ _ R i e q=>RD R i e q
theorem CB{m:Sl->M (List D)}(h:RA X es m):RE X (.List es pos) (AF BE m):=RE.wk (VN h.pe) λ_ _ _ q=>Fv q λ_ _ _ _ _ _ _ R i e q=>EA R i e q
theorem CT{m:Sl->M (List D)}(h:RA X es m):RE X (.List es pos) (AF Dq m):=RE.wk (VN h.pe) λ_ _ _ q=>Fv q λ_ _ _ _ _ _ _ R i e q=>NH R i e q
theorem AX{id:String}{x:Str}{g:List D->M D}{m:Sl->M (List D)}{p:Pos}(hc:Cd X (.builtin id) (rMA X.kw g))(hm:X.mg x=none)(hv:bootBuiltins x=some (.builtin id))(ha:RA X (e::es) m)(hg:Gl X x:=by rfl)(hn:x ≠ "__name__" := by decide)(hdb:(x==("__debug__" : Str))=false:=by decide)
  (he:starEach (e::es) X.env=(false,eval e X.env)::starEach es X.env:=by exact BH rfl) (hpl:(backTo pos (starEach es X.env)).any (·.1)=false:=by exact BY rfl):RE X (.Call (.Name x p) (e::es) [] pos) (AF g m):=
 RE.wk (OO hc hg hm hv ha.pe hn hdb he hpl) λ_ _ _ q=>Fv q λι μ μ' H ds vs d R i e q=>⟨ι,μ,ds,d,μ',R,i,e,q⟩
theorem A8{T:String}{x:Str}{g:List D->M D}{m:Sl->M (List D)}{p:Pos}(hc:Cd X (.type T) (rMA X.kw g))(hm:X.mg x=none)(hv:bootBuiltins x=some (.type T))(ha:RA X (e::es) m)(hg:Gl X x:=by rfl)(hn:x ≠ "__name__" := by decide)(hdb:(x==("__debug__" : Str))=false:=by decide)
  (he:starEach (e::es) X.env=(false,eval e X.env)::starEach es X.env:=by exact BH rfl) (hpl:(backTo pos (starEach es X.env)).any (·.1)=false:=by exact BY rfl):RE X (.Call (.Name x p) (e::es) [] pos) (AF g m):=
 RE.wk (L9 hc hg hm hv ha.pe hn hdb he hpl) λ_ _ _ q=>Fv q λι μ μ' H ds vs d R i e q=>⟨ι,μ,ds,d,μ',R,i,e,q⟩
noncomputable def spM(K:KW)(n:Nat)(φ:List D->M D):Sp:=λvs H Q _=>vs.length=n/\rMA K φ vs H Q
theorem XI{n k:Nat}{φ:List D->M D}{f:Addr}{fd:FuncData}{ps:List Str}{x:Str}{m:Sl->M (List D)}{p:Pos}(F:FnOk X.prog X.w X.kw X.mg X.base CX0 k f fd ps (spM X.kw n φ))(hr:Room k X.A)(hm:X.mg x=some (.ref f))(hk:PySem.W.keepIn X.kw (.ref f)=true)(hb:Binds X.kw fd ps [])
  (hφ:∀ds μ r,φ ds μ=some r->ds.length=n) (ha:RA X (e::es) m) (hg:Gl X x:=by rfl) (hdb:(x==("__debug__" : Str))=false:=by decide) (he:starEach (e::es) X.env=(false,eval e X.env)::starEach es X.env:=by exact BH rfl) (hpl:(backTo pos (starEach es X.env)).any (·.1)=false:=by exact BY rfl) :
  RE X (.Call (.Name x p) (e::es) [] pos) (AF φ m):=
 RE.wk (Xg F hr hg hm hk hb .nil Q9 ha.pe hdb he hpl) λ_ _ _ q=>Fv q λι μ μ' H ds vs d R i e q=>by
  rw[AAY];exact⟨by rw[i.length];exact hφ ds μ _ e,ι,μ,ds,d,μ',R,i,e,q⟩
end
section
variable{X:Cx}{e a c tg iter:Expr}{es:List Expr}{pos:Pos}{st:Stmt}{rest body:List Stmt}
noncomputable def A1:Sl->M (Fl×Sl):=λτ=>ret (.next,τ)
noncomputable def AQ(m1 m2:Sl->M (Fl×Sl)):Sl->M (Fl×Sl):=λτ=>bnd (m1 τ) λr=>match r.1 with
 | .next=>m2 r.2
 |f=>ret (f,r.2)
theorem AY:RSs X [] A1:=RSs.wk XT λDn σ H h=>by
 obtain⟨ι,μ,τ,f,τ',μ',R,S,e,q⟩:=h;cases e;exact q ι H R.ext0 R σ S
theorem AG(h1:RS X st m1)(h2:RSs X rest m2):RSs X (st::rest) (AQ m1 m2):=RSs.wk (VB h1.pe h2.pe) λDn σ H h=>by
 obtain⟨ι,μ,τ,f,τ',μ',R,S,e,q⟩:=h;obtain⟨⟨f1,τ1⟩,μ1,e1,e⟩:=AI e;refine⟨ι,μ,τ,f1,τ1,μ1,R,S,e1,λι1 H1 E1 R1 σ1 S1=>?_⟩;cases f1 with
 |next=>exact⟨ι1,μ1,τ1,f,τ',μ',R1,S1,e,λι2 H2 E2 R2=>q ι2 H2 (E1.trans E2) R2⟩
 |brk=>cases e;exact q ι1 H1 E1 R1 σ1 S1
 |cont=>cases e;exact q ι1 H1 E1 R1 σ1 S1
 |rt d=>cases e;exact q ι1 H1 E1 R1 σ1 S1
 |xc x=>cases e;exact q ι1 H1 E1 R1 σ1 S1
theorem AK(h:RS X st m):RSs X [st] m:=⟨XS h.pe⟩
noncomputable def Ag(m:Sl->M D):Sl->M (Fl×Sl):=λτ=>bnd (m τ) λ_=>ret (.next,τ)
theorem Ae(h:RE X e m)(hs:swapsWith e none pos.line X.env=pure false:=by rfl):RS X (.Expr e pos) (Ag m):=RS.wk (XU h.pe hs) λDn σ H h=>by
 obtain⟨ι,μ,τ,f,τ',μ',R,S,e,q⟩:=h;obtain⟨x,μ1,e1,e⟩:=AI e;cases e;exact⟨ι,μ,_,x,_,R,S,e1,λι1 H1 E1 R1 v i1=>q ι1 H1 E1 R1 σ (S.ext E1)⟩
noncomputable def Ar(m:Sl->M D):Sl->M (Fl×Sl):=λτ=>bnd (m τ) λd=>ret (.rt d,τ)
theorem AW(h:RE X e m):RS X (.Return (some e) pos) (Ar m):=RS.wk (Zg h.pe) λDn σ H h=>by
 obtain⟨ι,μ,τ,f,τ',μ',R,S,e,q⟩:=h;obtain⟨x,μ1,e1,e⟩:=AI e;cases e;exact⟨ι,μ,_,x,_,R,S,e1,λι1 H1 E1 R1 v i1=>q ι1 H1 E1 R1 σ (S.ext E1) v i1⟩
noncomputable def sIf(mc:Sl->M Bool)(m1 m2:Sl->M (Fl×Sl)):Sl->M (Fl×Sl):=λτ=>bnd (mc τ) λx=>if x=true then m1 τ else m2 τ
theorem At(hc:RT X c mc)(h1:RSs X body m1)(h2:RSs X rest m2):RS X (.If c body rest pos) (sIf mc m1 m2):=RS.wk (cL hc.pe h1.pe h2.pe) λDn σ H h=>by
 obtain⟨ι,μ,τ,f,τ',μ',R,S,e,q⟩:=h;obtain⟨x,μ1,e1,e⟩:=AI e;refine⟨ι,μ,τ,x,μ1,R,S,e1,λι1 H1 E1 R1=>?_⟩;cases x with
 |true=>exact⟨ι1,μ1,τ,f,τ',μ',R1,S.ext E1,e,λι2 H2 E2 R2=>q ι2 H2 (E1.trans E2) R2⟩
 |false=>exact⟨ι1,μ1,τ,f,τ',μ',R1,S.ext E1,e,λι2 H2 E2 R2=>q ι2 H2 (E1.trans E2) R2⟩
noncomputable def JJ:Sl->M (Fl×Sl):=λ_=>BO
theorem IX:RS X st JJ:=RS.wk VC λDn σ H h=>by
 obtain⟨ι,μ,τ,f,τ',μ',R,S,e,q⟩:=h;cases e
noncomputable def tG(K:KW)(bf:D->Sl->M Sl):TG:=λv σ H Q=>∃ι μ τ d τ' μ',RelH K ι μ H/\RelS K ι μ.length H τ σ/\Is K ι μ.length H d v/\bf d τ μ=some (τ',μ') /\
 Aft K ι μ H μ' λι' H'=>∀σ',RelS K ι' μ'.length H' τ' σ'->Q σ' H'
structure RG(X:Cx)(tg:Expr)(bf:D->Sl->M Sl):Prop where
 pe:PG X tg (tG X.kw bf)
theorem PG.wk(h:PG X tg t)(w:∀v σ H Q,t' v σ H Q->t v σ H Q):PG X tg t':=λpins s σ H v u Q I r q=>h pins s σ H v u Q I r (w v σ H Q q)
theorem RG.wk(h:PG X tg t)(w:∀v σ H Q,tG X.kw bf v σ H Q->t v σ H Q):RG X tg bf:=⟨PG.wk h w⟩
noncomputable def AM(i:Nat):D->Sl->M Sl:=λd τ=>ret (τ.set i (some d))
theorem Qg(h:tG K (AM i) v σ H Q):FE i v σ H Q:=by
 obtain⟨ι,μ,τ,d,τ',μ',R,S,i1,e,q⟩:=h;cases e;exact q ι H R.ext0 R _ (S.set i i1)
theorem CS(i:Nat)(hN:X.N.Nodup)(hi:X.N[i]?=some x:=by rfl)(hx:Loc X.env.scope x:=by first|exact Or.inl rfl|exact Or.inr rfl)(hf:X.fn x=true∨X.env.scope.names.lookup x=some .local:=by first|exact .inl rfl|exact .inr rfl|assumption):RG X (.Name x pos) (AM i):=
 RG.wk (Az hN hi hx hf) λ_ _ _ _ h=>Qg h
noncomputable def H9:List Nat->List D->Sl->M Sl
 |[],[],τ=>ret τ
 |i::is,d::ds,τ=>bnd (AM i d τ) λτ1=>H9 is ds τ1
 |_,_,_=>BO
noncomputable def DT(is:List Nat):D->Sl->M Sl
 | .tup ds,τ=>if ds.length=is.length then H9 is ds τ else BO
 |_,_=>BO
noncomputable def F5:List Nat->TGs
 |[]=>dL
 |i::is=>Yv (FE i) (F5 is)
theorem JS:∀{is:List Nat} {ds:List D} {vs:List V} {τ τ':Sl} {σ:St} {ι:Nat->Addr} {μ μ':Mh} {H:Hp} {Q:St->Hp->Prop},RelH K ι μ H->RelS K ι μ.length H τ σ->IsL K ι μ.length H ds vs->H9 is ds τ μ=some (τ',μ')->
  (μ'=μ->∀σ',RelS K ι μ.length H τ' σ'->Q σ' H)->F5 is vs σ H Q
 |[],[],_,_,_,_,_,_,_,_,_,R,S,i,e,q=>by
  cases e;unfold IsL at i;subst i;exact⟨rfl,q rfl _ S⟩
 |_::is,_::ds,_,τ,τ',σ,ι,μ,μ',H,Q,R,S,i,e,q=>by
  unfold IsL at i;obtain⟨v,vs',rfl,i1,i2⟩:=i;exact⟨v,vs',rfl,JS (is:=is) (ds:=ds) R (S.set _ i1) i2 e q⟩
 |[],_::_,_,_,_,_,_,_,_,_,_,_,_,_,e,_=>by cases e
 |_::_,[],_,_,_,_,_,_,_,_,_,_,_,_,e,_=>by cases e
theorem Mf:∀{is:List Nat} {ds:List D} {τ τ':Sl} {μ μ':Mh},H9 is ds τ μ=some (τ',μ')->μ'=μ
 |[],[],_,_,_,_,e=>by cases e;rfl
 |_::is,_::ds,_,_,_,_,e=>Mf (is:=is) (ds:=ds) e
 |[],_::_,_,_,_,_,e=>by cases e
 |_::_,[],_,_,_,_,e=>by cases e
theorem Hh(hc:X.calm=true)(h:PGs X es (F5 is))(hn:(assignEach es X.env).length=is.length:=by rfl)(hst:(assignEach es X.env).findIdx? (·.1)=none:=by rfl):RG X (.Tuple es k pos) (DT is):=
 RG.wk (Pn hc h hn hst) λv σ H Q h=>by
  obtain⟨ι,μ,τ,d,τ',μ',R,S,i1,e,q⟩:=h;cases d with
  |tup ds=>
   unfold Is at i1;obtain⟨p,vs,rfl,h1,h2⟩:=i1;have e':(if ds.length=is.length then H9 is ds τ else BO) μ=some (τ',μ'):=e;by_cases hl:ds.length=is.length
   ·rw[if_pos hl] at e';have e:=e';refine⟨p,vs,rfl,h1,by rw[h2.length,hl],JS R S h2 e λz σ' S'=>?_⟩;subst z;exact q ι H R.ext0 R σ' S'
   ·rw[if_neg hl] at e';cases e'
  |_=>cases e
noncomputable def As(m:Sl->M D)(bf:D->Sl->M Sl):Sl->M (Fl×Sl):=λτ=>bnd (m τ) λd=>bnd (bf d τ) λτ'=>ret (.next,τ')
theorem Qe(hg:∀v H Q,tG K bf v σ H Q->g v σ H Q)(h:tSt K (As m bf) Dn σ H):UZ (tE K m) g Dn σ H:=by
 obtain⟨ι,μ,τ,f,τ',μ',R,S,e,q⟩:=h;obtain⟨x,μ1,e1,e⟩:=AI e;obtain⟨τ1,μ2,e2,e⟩:=AI e;cases e;exact⟨ι,μ,τ,x,μ1,R,S,e1,λι1 H1 E1 R1 v i1=>hg _ _ _ ⟨ι1,μ1,τ,x,_,_,R1,S.ext E1,i1,e2,λι2 H2 E2 R2 σ' S'=>q ι2 H2 (E1.trans E2) R2 σ' S'⟩⟩
theorem Ai(i:Nat)(hN:X.N.Nodup)(he:RE X e m)(hi:X.N[i]?=some x:=by rfl)(hx:Loc X.env.scope x:=by first|exact Or.inl rfl|exact Or.inr rfl)(hs:swapsWith e (some (.Name x pos')) pos.line X.env=pure false:=by rfl)(hf:X.fn x=true∨X.env.scope.names.lookup x=some .local:=by first|exact .inl rfl|exact .inr rfl|assumption):
  RS X (.Assign [.Name x pos'] e pos) (As m (AM i)):=RS.wk (Zf hN hi hx he.pe hs hf) λ_ _ _ h=>Qe (λ_ _ _ q=>Qg q) h
theorem Uk(he:RE X e m)(hg:RG X tg bf)(hs:swapsWithSole [tg] e pos.line X.env=pure false:=by rfl)(hw:swappedStores [tg] e X.env=pure none:=by rfl)
  (h1:(assignEach [tg] X.env).map (·.2)=[assign tg X.env]:=by rfl):RS X (.Assign [tg] e pos) (As m bf):=RS.wk (Zj he.pe hg.pe hs hw h1) λ_ _ _ h=>Qe (λ_ _ _ q=>q) h
def ItM(K:KW)(J:It)(ds:List D)(ι:Nat->Addr)(μ:Mh)(H:Hp):Prop:=∀ι' (μ':Mh) H',Ext ι μ.length H ι' μ'.length H'->RelH K ι' μ' H'->
 (∀i,i<ds.length->J.go i H')/\J.stop ds.length H'/\∀(i:Nat) x H2 d,ds[i]?=some d->J.yld i H' x H2->Ext ι' μ'.length H' ι' μ'.length H2/\RelH K ι' μ' H2/\Is K ι' μ'.length H2 d x
theorem ItM.ext(h:ItM K J ds ι μ H)(E:Ext ι μ.length H ι' μ'.length H'):ItM K J ds ι' μ' H':=λι2 μ2 H2 E2 R2=>h ι2 μ2 H2 (E.trans E2) R2
noncomputable def tI(K:KW)(m:Sl->M (List D)):TI:=λσ H R=>∃ι μ τ ds μ',RelH K ι μ H/\RelS K ι μ.length H τ σ/\m τ μ=some (ds,μ') /\
 Aft K ι μ H μ' λι' H'=>∀J,ItM K J ds ι' μ' H'->R J H'
structure RI(X:Cx)(tg iter:Expr)(m:Sl->M (List D)):Prop where
 pe:PI X tg iter (tI X.kw m)
theorem PI.wk(h:PI X tg iter t)(w:∀σ H R,t' σ H R->t σ H R):PI X tg iter t':=λpins s σ H R I q=>h pins s σ H R I (w σ H R q)
theorem RI.wk(h:PI X tg iter t)(w:∀σ H R,tI X.kw m σ H R->t σ H R):RI X tg iter m:=⟨PI.wk h w⟩
theorem PI.or(h:PI X tg iter t)(h':PI X tg iter t'):PI X tg iter (λσ H R=>t σ H R∨t' σ H R):=λpins s σ H R I q=>q.elim (h pins s σ H R I) (h' pins s σ H R I)
noncomputable def HW:D->M (List D)
 | .lst ds=>ret ds
 | .tup ds=>ret ds
 | .scr ns=>ret (ns.map D.int)
 |_=>BO
noncomputable def Dw(m:Sl->M D):Sl->M (List D):=λτ=>bnd (m τ) HW
theorem Oe(st:∀ι' (μ':Mh) H',Ext ι μ.length H ι' μ'.length H'->RelH K ι' μ' H'->SqL K H' p vs)(i:IsL K ι μ.length H ds vs):ItM K (Itl K p) ds ι μ H:=by
 intro ι' μ' H' E R;have h:=st ι' μ' H' E R;have hl:=i.length;refine⟨λj hj=>⟨vs,vs[j],h,by simp⟩,⟨vs,h,by omega⟩,λj x H2 d hd y=>?_⟩;obtain⟨e,y⟩:=y;subst e;obtain⟨v,ev,iv⟩:=(i.ext E).get hd;have:=y vs h;rw[ev] at this;cases this;exact⟨R.ext0,R,iv⟩
theorem X7{K:KW}{ι:Nat->Addr}{μ:Mh}(h:SqT K H p vs)(i:IsL K ι μ.length H ds vs):ItM K (Itt K p) ds ι μ H:=by
 intro ι' μ' H' E R;have h:=G3 E h;have hl:=i.length;refine⟨λj hj=>⟨vs,vs[j],h,by simp⟩,⟨vs,h,by omega⟩,λj x H2 d hd y=>?_⟩;obtain⟨e,y⟩:=y;subst e;obtain⟨v,ev,iv⟩:=(i.ext E).get hd;have:=y vs h;rw[ev] at this;cases this;exact⟨R.ext0,R,iv⟩
theorem XC(q:tI K (Dw m) σ H R):Yu K (tE K m) σ H R∨dF K (tE K m) σ H R:=by
 obtain⟨ι,μ,τ,ds,μ',R0,S,e,q⟩:=q;obtain⟨x,μ1,e1,e⟩:=AI e;cases x with
 |lst es=>
  cases e;refine .inl ⟨ι,μ,τ,_,_,R0,S,e1,λι1 H1 E1 R1 v i1=>?_⟩;unfold Is at i1;obtain⟨p,vs,rfl,h1,hn,h2⟩:=i1;exact⟨p,rfl,⟨vs,SqL.of h1⟩,q ι1 H1 E1 R1 _ (Oe (λι' μ' H' E _=>SqL.of (E.keep p _ h1 hn)) h2)⟩
 |tup es=>
  cases e;refine .inr ⟨ι,μ,τ,_,_,R0,S,e1,λι1 H1 E1 R1 v i1=>?_⟩;unfold Is at i1;obtain⟨p,vs,rfl,h1,h2⟩:=i1;exact⟨p,rfl,⟨vs,h1⟩,q ι1 H1 E1 R1 _ (X7 h1 h2)⟩
 |scr ns=>
  cases e;refine .inl ⟨ι,μ,τ,_,_,R0,S,e1,λι1 H1 E1 R1 v i1=>?_⟩;unfold Is at i1;obtain⟨p,rfl,h1⟩:=i1;exact⟨p,rfl,⟨_,h1.sq⟩,q ι1 H1 E1 R1 _ (Oe (λι' μ' H' E _=>(J4 E h1).sq) (IsL.ofInts ns))⟩
 |non=>cases e
 |bl _=>cases e
 |int _=>cases e
 |str _=>cases e
 |ty _=>cases e
 |ref _=>cases e
theorem CV(h:RE X e m):RI X tg e (Dw m):=RI.wk (PI.or (Q7 h.pe) (Zl h.pe)) λ_ _ _ q=>XC q
noncomputable def GX(lo hi:Int):List D:=(List.range (hi-lo).toNat).map λ(j:Nat)=>D.int (lo+(j:Int))
noncomputable def OJ:List D->M (List D)
 |[.int j]=>λμ=>if -(2 ^ 62)<=j/\j<2 ^ 62 then some (GX 0 j,μ) else none
 |_=>BO
noncomputable def Ig(m:Sl->M (List D)):Sl->M (List D):=λτ=>bnd (m τ) OJ
theorem X9:ItM K (Itr lo (hi-lo).toNat) (GX lo hi) ι μ H:=by
 intro ι' μ' H' E R;have hl:(GX lo hi).length=(hi-lo).toNat:=by simp[GX]
 rw[hl];refine⟨λj hj=>hj,AAE _,λj x H2 d hd y=>?_⟩;obtain⟨e,y⟩:=y;subst e;unfold GX at hd;rw[AAV] at hd;cases q:(List.range (hi-lo).toNat)[j]? with
 |none=>rw[q] at hd;cases hd
 |some z=>
  rw[q] at hd;have hz:z=j:=by
   have:=(AAT.mp q).2;simpa using this.symm
  subst hz;cases hd;exact⟨R.ext0,R,by unfold Is;exact y⟩
theorem G4(hm:X.mg "range" = none)(ha:RA X [a] m)(hg:Gl X "range" := by rfl)(hs:starEach [a] X.env=[(false,eval a X.env)]:=by rfl):RI X tg (.Call (.Name "range" p) [a] [] pos) (Ig m):=
 RI.wk (Sd hg hm ha.pe hs) λσ H R q=>by
  obtain⟨ι,μ,τ,ds,μ',R0,S,e,q⟩:=q;obtain⟨xs,μ1,e1,e⟩:=AI e;refine⟨ι,μ,τ,xs,μ1,R0,S,e1,λι1 H1 E1 R1 vs i1=>?_⟩;unfold OJ at e;split at e
  ·rename_i j;split at e
   ·rename_i hb;cases e;unfold IsL Is at i1;obtain⟨v,vs',rfl,rfl,i2⟩:=i1;unfold IsL at i2;subst i2;refine⟨j,rfl,hb.1,hb.2,q ι1 H1 E1 R1 _ ?_⟩;have:=X9 (K:=X.kw) (ι:=ι1) (μ:=μ') (H:=H1) (lo:=0) (hi:=j);rw[Int.sub_zero] at this;exact this
   ·cases e
  ·cases e
noncomputable def Ba(bf:D->Sl->M Sl)(mb:Sl->M (Fl×Sl)):List D->Sl->M (Fl×Sl)
 |[],τ=>ret (.next,τ)
 |x::xs,τ=>bnd (bf x τ) λτ1=>bnd (mb τ1) λr=>match r.1 with
  | .next=>Ba bf mb xs r.2
  | .cont=>Ba bf mb xs r.2
  | .brk=>ret (.next,r.2)
  | .rt d=>ret (.rt d,r.2)
  | .xc x=>ret (.xc x,r.2)
noncomputable def Du(src:Sl->M (List D))(bf:D->Sl->M Sl)(mb:Sl->M (Fl×Sl)):Sl->M (Fl×Sl):=λτ=>bnd (src τ) λds=>Ba bf mb ds τ
theorem Bz(hp:PassesOwn (model X.prog X.w) X.A X.env X.xe)(hc:X.calm=true)(hi:RI X tg iter src)(hg:RG X tg bf)(hb:RSs X body mb)
  (hs:∀x,foldedSetIterable iter X.env x=pure x:=by intro _;rfl):RS X (.For tg iter body [] pos) (Du src bf mb):=RS.wk (Zh hp hc hi.pe hg.pe hb.pe hs) λDn σ H h=>by
 obtain⟨ι,μ,τ,f,τ',μ',R,S,e,q⟩:=h;obtain⟨ds,μ1,e1,e⟩:=AI e;refine⟨ι,μ,τ,ds,μ1,R,S,e1,λι1 H1 E1 R1 J it=>?_⟩
 let W:Nat->Nat->St->Hp->Prop:=λi m σ H=>m=ds.length-i/\i<=ds.length/\∃ι μ τ f τ' μ',RelH X.kw ι μ H/\RelS X.kw ι μ.length H τ σ/\ItM X.kw J ds ι μ H/\Ba bf mb (ds.drop i) τ μ=some ((f,τ'),μ') /\
  Aft X.kw ι μ H μ' λι' H'=>∀σ',RelS X.kw ι' μ'.length H' τ' σ'->FlP X.kw Dn ι' μ'.length H' τ' σ' f
 refine⟨W,⟨ds.length,by simp,AAi _,ι1,μ1,τ,f,τ',μ',R1,S.ext E1,it,e,λι2 H2 E2 R2=>q ι2 H2 (E1.trans E2) R2⟩,?_⟩;rintro i m σ H ⟨hm,hil,ι,μ,τ,f,τ',μ',R,S,it,e,q⟩;obtain⟨go,stop,yl⟩:=it ι μ H R.ext0 R;by_cases hlt:i<ds.length
 ·refine .inr ⟨go i hlt,λσ' H'=>W (i+1) (ds.length-(i+1)) σ' H',λσ' H' z=>⟨_,by omega,z⟩,λx H2 y=>?_⟩;have hd:ds[i]?=some ds[i]:=by simp[hlt]
  obtain⟨E2,R2,ix⟩:=yl i x H2 _ hd y;rw[List.drop_eq_getElem_cons hlt] at e;obtain⟨τ1,μ1,e1,e⟩:=AI e;obtain⟨⟨f2,τ2⟩,μ2,e2,e⟩:=AI e;refine⟨ι,μ,τ,_,τ1,μ1,R2,S.ext E2,ix,e1,λι3 H3 E3 R3 σ3 S3=>?_⟩;refine⟨ι3,μ1,τ1,f2,τ2,μ2,R3,S3,e2,λι4 H4 E4 R4 σ4 S4=>?_⟩;have E14:=(E2.trans E3).trans E4;cases f2 with
  |next=>exact⟨rfl,hlt,ι4,μ2,τ2,f,τ',μ',R4,S4,it.ext E14,e,λι5 H5 E5 R5=>q ι5 H5 (E14.trans E5) R5⟩
  |cont=>exact⟨rfl,hlt,ι4,μ2,τ2,f,τ',μ',R4,S4,it.ext E14,e,λι5 H5 E5 R5=>q ι5 H5 (E14.trans E5) R5⟩
  |brk=>cases e;exact q ι4 H4 E14 R4 σ4 S4
  |rt d=>cases e;exact q ι4 H4 E14 R4 σ4 S4
  |xc x=>cases e;exact q ι4 H4 E14 R4 σ4 S4
 ·have hi':i=ds.length:=by omega
  subst hi';rw[List.drop_length] at e;cases e;exact .inl ⟨stop,q ι H R.ext0 R σ S⟩
end
section
variable{X:Cx}{scope:Scope}{tgs:List Str}{ix:List Nat}{elt tg iter:Expr}{pos:Pos}
noncomputable def VH(ix:List Nat)(τ:Sl):Sl:=ix.map λj=>(τ[j]?).getD none
noncomputable def BR(n:Nat)(ix:List Nat)(τ:Sl):Sl:=List.replicate n none++VH ix τ
noncomputable def Cb(bf:D->Sl->M Sl)(mc:Sl->M Bool)(me:Sl->M D)(τ0:Sl):List D->List D->M (List D)
 |[],ys=>ret ys
 |x::xs,ys=>bnd (bf x τ0) λτ1=>bnd (mc τ1) λc=>if c=true then bnd (me τ1) λy=>Cb bf mc me τ0 xs (ys++[y]) else Cb bf mc me τ0 xs ys
noncomputable def Bi(n:Nat)(ix:List Nat)(src:Sl->M (List D))(bf:D->Sl->M Sl)(mc:Sl->M Bool)(me:Sl->M D)(fin:List D->M D):Sl->M D:=λτ=>bnd (src τ) λds=>bnd (lim ds.length) λ_=>bnd (Cb bf mc me (BR n ix τ) ds []) fin
noncomputable def Bu:Sl->M Bool:=λ_=>ret true
theorem RelS.block(S:RelS K ι k H τ σ):RelS K ι k H (BR tgs.length ix τ) (DL tgs ix σ):=by
 refine⟨by simp[BR,DL,VH,L8],λi d e=>?_⟩;unfold BR at e;have hk:tgs.length<=i:=by
  rcases Nat.lt_or_ge i tgs.length with z|z
  ·rw[AAS (by simpa using z),List.getElem?_replicate,if_pos z] at e;cases e
  ·exact z
 rw[AAR (by simpa using hk),AAl] at e;unfold VH at e;rw[AAV] at e;cases q:ix[i-tgs.length]? with
 |none=>rw[q] at e;cases e
 |some j=>
  rw[q] at e;have e':(τ[j]?).getD none=some d:=Option.some.inj e;cases q2:τ[j]? with
  |none=>rw[q2] at e';cases e'
  |some o=>
   rw[q2] at e';have e'':o=some d:=e';subst e'';obtain⟨v,ev,iv⟩:=S.get j d q2;refine⟨v,?_,iv⟩;unfold DL;rw[AAR (by simpa using hk),AAl];unfold L8;rw[AAV,q,Option.map_some,ev];rfl
theorem Qj(hn:tgs.length=n)(hf:∀ι μ μ' H ds vs d (Q:VK),RelH K ι μ H->IsL K ι μ.length H ds vs->fin ds μ=some (d,μ')->(Aft K ι μ H μ' λι' H'=>∀v,Is K ι' μ'.length H' d v->Q v H')->
   vs.length<=sizeLine/\∀p,H p=none->Q (.ref p) (upd H p (.lst vs)))
  (h:tE K (Bi n ix src (AM i) mc me fin) σ H Q):Ka tgs ix (tI K src) (FE i) (tT K mc) (tE K me) σ H Q:=by
 subst hn;obtain⟨ι,μ,τ,d,μ',R,S,e,q⟩:=h;obtain⟨ds,μ1,e1,e5⟩:=AI e;obtain⟨u,μ2,e2,e6⟩:=AI e5;obtain⟨zs,μ3,e3,e7⟩:=AI e6;obtain⟨hl,e4⟩:=CG e2;clear e e5 e6;subst e4;refine⟨ι,μ,τ,ds,_,R,S,e1,λι1 H1 E1 R1 J it=>?_⟩;refine⟨λi' m ys H=>m=ds.length-i'/\i'<=ds.length/\ys.length<=i'/\∃(ι:Nat->Addr) (μ:Mh) (as:List D),RelH K ι μ H/\RelS K ι μ.length H τ σ/\ItM K J ds ι μ H/\IsL K ι μ.length H as ys/\Cb (AM i) mc me (BR tgs.length ix τ) (ds.drop i') as μ=some (zs,μ3) /\
  Aft K ι μ H μ' λι' H'=>∀v,Is K ι' μ'.length H' d v->Q v H',⟨ds.length,by simp,AAi _,AAE _,ι1,_,[],R1,S.ext E1,it,.nil,e3,λι2 H2 E2 R2=>q ι2 H2 (E1.trans E2) R2⟩,?_⟩
 rintro i' m ys H ⟨hm,hil,hyl,ι,μ,as,R,S,it,ia,e3,q⟩;obtain⟨go,stop,yl⟩:=it ι μ H R.ext0 R;by_cases hlt:i'<ds.length
 ·refine .inr ⟨go i' hlt,by omega,λys' H'=>ys'.length<=i'+1/\∃(ι:Nat->Addr) (μ:Mh) (as:List D),RelH K ι μ H'/\RelS K ι μ.length H' τ σ/\ItM K J ds ι μ H'/\IsL K ι μ.length H' as ys'/\Cb (AM i) mc me (BR tgs.length ix τ) (ds.drop (i'+1)) as μ=some (zs,μ3) /\
   Aft K ι μ H' μ' λι' H'=>∀v,Is K ι' μ'.length H' d v->Q v H',λys' H' z=>⟨_,(by omega:ds.length-(i'+1)<m),rfl,hlt,z⟩,λx H2 y=>?_⟩
  have hd:ds[i']?=some ds[i']:=by simp[hlt]
  obtain⟨E2,R2,ix2⟩:=yl i' x H2 _ hd y;rw[List.drop_eq_getElem_cons hlt] at e3;obtain⟨τ1,μ1,e1,e3⟩:=AI e3;cases e1;obtain⟨cc,μ2,e2,e3⟩:=AI e3;have S2:=(S.ext E2).block (tgs:=tgs) (ix:=ix);show tT K mc _ H2 _;refine⟨ι,_,_,cc,μ2,R2,S2.set i ix2,e2,λι3 H3 E3 R3=>?_⟩;have E13:=E2.trans E3;cases cc with
  |false=>
   exact⟨by omega,ι3,μ2,as,R3,S.ext E13,it.ext E13,ia.ext E13,e3,λι5 H5 E5 R5=>q ι5 H5 (E13.trans E5) R5⟩
  |true=>
   obtain⟨y',μ4,e4,e3⟩:=AI e3;refine⟨ι3,μ2,_,y',μ4,R3,(S2.set i ix2).ext E3,e4,λι4 H4 E4 R4 v iv=>?_⟩;have E14:=E13.trans E4;exact⟨by simp;omega,ι4,μ4,as++[y'],R4,S.ext E14,it.ext E14,(ia.ext E14).append (.one iv),e3,λι5 H5 E5 R5=>q ι5 H5 (E14.trans E5) R5⟩
 ·have hi':i'=ds.length:=by omega
  subst hi';rw[List.drop_length] at e3;cases e3;obtain⟨z1,z2⟩:=hf ι _ μ' H _ ys d Q R ia e7 q;exact .inl ⟨stop,z1,z2⟩
theorem Fy(S:BScope X scope tgs ix)(hc:X.calm=true)(hi:RI X tg iter src)(hg:∀fp C s H,PG (cxB X scope tgs fp C s H) tg (FE i))(hif:∀fp C s H,Li (cxB X scope tgs fp C s H) ifs (tT X.kw mc))(he:∀fp C s H,RE (cxB X scope tgs fp C s H) elt me)
  (hin:i<tgs.length:=by decide) (hn:tgs.length=n:=by rfl) (hs:∀x,foldedSetIterable iter X.env x=pure x:=by intro _;rfl) (ht:∀o v,letOwnedTupleGo tg o v=pure ():=by intro _ _;rfl):RE X (.ListComp elt [⟨tg,iter,ifs,0⟩] scope pos) (Bi n ix src (AM i) mc me BE):=
 RE.wk (Q8 (te:=tE X.kw me) S hc hi.pe hg (NW hin) hif (λfp C s H=>(he fp C s H).pe) hs ht) λ_ _ _ h=>Qj hn (λ_ _ _ _ _ _ _ _ R i e q=>EA R i e q) h
theorem C0:Li X [] (tT K Bu):=λpins s σ H Q I h=>by
 obtain⟨ι,μ,τ,b,μ',R,S,e,q⟩:=h;cases e;exact VF pins s σ H Q I (q ι H R.ext0 R)
theorem Uq(h:RT X c mc):Li X [c] (tT X.kw mc):=VE h.pe
theorem Kk(k:Nat)(hN:X.N.Nodup)(S:BScope X scope tgs ix)(hc:X.calm=true)(hi:RI X tg iter src)(hg:∀fp C s H,PG (cxB X scope tgs fp C s H) tg (FE i))(hif:∀fp C s H,Li (cxB X scope tgs fp C s H) ifs (tT X.kw mc))(he:∀fp C s H,RE (cxB X scope tgs fp C s H) elt me)
  (hfin:∀ι μ μ' H ds vs d (Q:VK),RelH X.kw ι μ H->IsL X.kw ι μ.length H ds vs->fin ds μ=some (d,μ')->(Aft X.kw ι μ H μ' λι' H'=>∀v,Is X.kw ι' μ'.length H' d v->Q v H')->vs.length<=sizeLine/\∀p,H p=none->Q (.ref p) (upd H p (.lst vs)))
  (hiN:X.N[k]?=some y:=by rfl) (hy:X.env.scope.names.lookup y=some .local:=by rfl) (hin:i<tgs.length:=by decide) (hn:tgs.length=n:=by rfl)
  (hsw:swapsWith (.ListComp elt [⟨tg,iter,ifs,0⟩] scope pos) (some (.Name y py)) spos.line X.env=pure true:=by rfl) (hs:∀x,foldedSetIterable iter X.env x=pure x:=by intro _;rfl) (ht:∀o v,letOwnedTupleGo tg o v=pure ():=by intro _ _;rfl) :
  RS X (.Assign [.Name y py] (.ListComp elt [⟨tg,iter,ifs,0⟩] scope pos) spos) (As (Bi n ix src (AM i) mc me fin) (AM k)):=
 RS.wk (Pj (te:=tE X.kw me) hN hiN hy S hc hi.pe hg (NW hin) hif (λfp C s H=>(he fp C s H).pe) hsw hs ht) λDn σ H h=>by
  obtain⟨ι,μ,τ,f,τ',μ',R,S,e,q⟩:=h;obtain⟨x,μ1,e1,e⟩:=AI e;obtain⟨τ1,μ2,e2,e⟩:=AI e;cases e2;cases e;refine Qj hn hfin ⟨ι,μ,τ,x,_,R,S,e1,λι1 H1 E1 R1 v i1=>?_⟩;exact q ι1 H1 E1 R1 _ ((S.ext E1).set k i1)
mutual
def Cl(k:Nat):D->Prop
 | .tup ds=>ClL k ds
 | .lst ds=>ClL k ds
 | .ref n=>n<k
 |_=>True
def ClL(k:Nat):List D->Prop
 |[]=>True
 |d::ds=>Cl k d/\ClL k ds
end
noncomputable def ClO(k:Nat):MO->Prop
 | .lst ds=>ClL k ds
 | .dK l=>ClL k (l.map (·.2))
 | .dC l=>ClL k (l.map (·.2))
 | .ins _ l=>ClL k (l.map (·.2))
 | .dP l=>ClL k (l.map (·.1))/\ClL k (l.map (·.2))
 | .exc _ _=>True
section
variable{K:KW}{ι:Nat->Addr}{k k':Nat}{H:Hp}
mutual
theorem Is.down(hk:k<=k'):∀{d:D} {v:V},Cl k d->Is K ι k' H d v->Is K ι k H d v
 | .non,_,_,h=>by unfold Is at h ⊢;exact h
 | .bl _,_,_,h=>by unfold Is at h ⊢;exact h
 | .int _,_,_,h=>by unfold Is at h ⊢;exact h
 | .str _,_,_,h=>by unfold Is at h ⊢;exact h
 | .ty _,_,_,h=>by unfold Is at h ⊢;exact h
 | .scr _,_,_,h=>by unfold Is at h ⊢;exact h
 | .tup ds,_,c,h=>by
  unfold Is at h ⊢;obtain⟨p,vs,e,h1,h2⟩:=h;exact⟨p,vs,e,h1,IsL.down hk (by unfold Cl at c;exact c) h2⟩
 | .lst ds,_,c,h=>by
  unfold Is at h ⊢;obtain⟨p,vs,e,h1,hn,h2⟩:=h;exact⟨p,vs,e,h1,λn z=>hn n (AAM z hk),IsL.down hk (by unfold Cl at c;exact c) h2⟩
 | .ref n,_,c,h=>by
  unfold Is at h ⊢;exact⟨by unfold Cl at c;exact c,h.2⟩
theorem IsL.down(hk:k<=k'):∀{ds:List D} {vs:List V},ClL k ds->IsL K ι k' H ds vs->IsL K ι k H ds vs
 |[],_,_,h=>by unfold IsL at h ⊢;exact h
 |_::_,_,c,h=>by
  unfold IsL at h ⊢;unfold ClL at c;obtain⟨v,vs',e,h1,h2⟩:=h;exact⟨v,vs',e,Is.down hk c.1 h1,IsL.down hk c.2 h2⟩
end
mutual
theorem Is.cl:∀{d:D} {v:V},Is K ι k H d v->Cl k d
 | .non,_,_=>by unfold Cl;trivial
 | .bl _,_,_=>by unfold Cl;trivial
 | .int _,_,_=>by unfold Cl;trivial
 | .str _,_,_=>by unfold Cl;trivial
 | .ty _,_,_=>by unfold Cl;trivial
 | .scr _,_,_=>by unfold Cl;trivial
 | .tup ds,_,h=>by
  unfold Is at h;unfold Cl;obtain⟨p,vs,e,h1,h2⟩:=h;exact IsL.cl h2
 | .lst ds,_,h=>by
  unfold Is at h;unfold Cl;obtain⟨p,vs,e,h1,hn,h2⟩:=h;exact IsL.cl h2
 | .ref n,_,h=>by
  unfold Is at h;unfold Cl;exact h.1
theorem IsL.cl:∀{ds:List D} {vs:List V},IsL K ι k H ds vs->ClL k ds
 |[],_,_=>by unfold ClL;trivial
 |_::_,_,h=>by
  unfold IsL at h;unfold ClL;obtain⟨v,vs',e,h1,h2⟩:=h;exact⟨Is.cl h1,IsL.cl h2⟩
end
theorem KVs.cl:∀{l:List (Key×D)} {r:List (Key×V)},KVs K ι k H l r->ClL k (l.map (·.2))
 |[],_,_=>by unfold List.map ClL;trivial
 |(_,_)::_,_,h=>by
  obtain⟨v,r',e,h1,h2⟩:=h;rw[AAW];unfold ClL;exact⟨h1.cl,KVs.cl h2⟩
theorem KVs.down(hk:k<=k'):∀{l:List (Key×D)} {r:List (Key×V)},ClL k (l.map (·.2))->KVs K ι k' H l r->KVs K ι k H l r
 |[],_,_,h=>h
 |(_,_)::_,_,c,h=>by
  rw[AAW] at c;unfold ClL at c;obtain⟨v,r',e,h1,h2⟩:=h;exact⟨v,r',e,h1.down hk c.1,KVs.down hk c.2 h2⟩
theorem Rx:∀l:List Int,ClL k (l.map D.int)
 |[]=>by unfold List.map ClL;trivial
 |_::l=>by unfold List.map ClL;exact⟨by unfold Cl;trivial,Rx l⟩
theorem dZ(c:Nk.Cs):Cl k (csD c):=by
 unfold csD Cl ClL;refine⟨by unfold Cl;trivial,?_⟩;unfold ClL;refine⟨by unfold Cl;trivial,?_⟩;unfold ClL;exact⟨by unfold Cl;exact Rx _,by unfold ClL;trivial⟩
theorem CVs.cl:∀{l:List (Nk.Cs×D)} {r:List (Nk.Cs×Addr×V)},CVs K ι k H l r->ClL k (l.map (·.2))
 |[],_,_=>by unfold List.map ClL;trivial
 |(_,_)::_,_,h=>by
  obtain⟨a,v,r',rfl,_,h1,h2⟩:=h;rw[AAW];unfold ClL;exact⟨h1.cl,CVs.cl h2⟩
theorem CVs.down(hk:k<=k'):∀{l:List (Nk.Cs×D)} {r:List (Nk.Cs×Addr×V)},ClL k (l.map (·.2))->CVs K ι k' H l r->CVs K ι k H l r
 |[],_,_,h=>h
 |(_,_)::_,_,c,h=>by
  rw[AAW] at c;unfold ClL at c;obtain⟨a,v,r',e,h0,h1,h2⟩:=h;exact⟨a,v,r',e,h0.down hk (dZ _),h1.down hk c.1,CVs.down hk c.2 h2⟩
theorem FVs.cl:∀{l:List (Str×D)} {r:List (Str×V)},FVs K ι k H l r->ClL k (l.map (·.2))
 |[],_,_=>by unfold List.map ClL;trivial
 |(_,_)::_,_,h=>by
  obtain⟨v,r',rfl,h1,h2⟩:=h;rw[AAW];unfold ClL;exact⟨h1.cl,FVs.cl h2⟩
theorem FVs.down(hk:k<=k'):∀{l:List (Str×D)} {r:List (Str×V)},ClL k (l.map (·.2))->FVs K ι k' H l r->FVs K ι k H l r
 |[],_,_,h=>h
 |(_,_)::_,_,c,h=>by
  rw[AAW] at c;unfold ClL at c;obtain⟨v,r',e,h1,h2⟩:=h;exact⟨v,r',e,h1.down hk c.1,FVs.down hk c.2 h2⟩
theorem PVs.cl:∀{l:List (D×D)} {r:List (D×Addr×V)},PVs K ι k H l r->ClL k (l.map (·.1))/\ClL k (l.map (·.2))
 |[],_,_=>by unfold List.map ClL;exact⟨trivial,trivial⟩
 |(_,_)::_,_,h=>by
  obtain⟨a,v,r',_,h1,h2,h3⟩:=h;rw[AAW,AAW];unfold ClL;exact⟨⟨h1.2.2.cl,(PVs.cl h3).1⟩,h2.cl,(PVs.cl h3).2⟩
theorem PVs.down(hk:k<=k'):∀{l:List (D×D)} {r:List (D×Addr×V)},ClL k (l.map (·.1))->ClL k (l.map (·.2))->PVs K ι k' H l r->PVs K ι k H l r
 |[],_,_,_,h=>h
 |(_,_)::_,_,b,c,h=>by
  rw[AAW] at b c;unfold ClL at b c;obtain⟨a,v,r',e,h1,h2,h3⟩:=h;exact⟨a,v,r',e,⟨h1.1,h1.2.1,h1.2.2.down hk b.1⟩,h2.down hk c.1,PVs.down hk b.2 c.2 h3⟩
theorem ObjIs.cl(h:ObjIs K ι k H p o u):ClO k o:=by
 cases o with
 |lst ds=>obtain⟨vs,_,h⟩:=h;exact h.cl
 |dK l=>obtain⟨r,_,h⟩:=h;exact h.cl
 |dC l=>obtain⟨r,_,h⟩:=h;exact h.cl
 |ins c l=>obtain⟨C,dx,r,_,_,_,h⟩:=h;exact h.cl
 |dP l=>obtain⟨r,_,h⟩:=h;exact h.cl
 |exc c n=>exact trivial
theorem ObjIs.down(hk:k<=k')(c:ClO k o)(h:ObjIs K ι k' H p o u):ObjIs K ι k H p o u:=by
 cases o with
 |lst ds=>obtain⟨vs,e,h⟩:=h;exact⟨vs,e,h.down hk c⟩
 |dK l=>obtain⟨r,e,h⟩:=h;exact⟨r,e,h.down hk c⟩
 |dC l=>obtain⟨r,e,h⟩:=h;exact⟨r,e,h.down hk c⟩
 |ins n l=>obtain⟨C,dx,r,e,h0,h1,h⟩:=h;exact⟨C,dx,r,e,h0,h1,h.down hk c⟩
 |dP l=>obtain⟨r,e,h⟩:=h;exact⟨r,e,h.down hk c.1 c.2⟩
 |exc c n=>exact h
end
def eh(μ2 μ':Mh)(d' d:D):Prop:=(d'=d/\Cl μ'.length d)∨∃n ds,d'=.ref n/\μ2[n]?=some (.lst ds)/\μ'.length<=n/\d=.lst ds/\ClL μ'.length ds
structure Gr(μ μ2 μ':Mh)(d' d:D):Prop where
 grow:∃g,μ2=μ'++g
 le:μ.length<=μ'.length
 old:∀(n:Nat) (o:MO),μ'[n]?=some o->μ[n]?=some o∨ClO μ'.length o
 conv:eh μ2 μ' d' d
noncomputable def HE:Fl->D
 | .rt d=>d
 |_=>.non
theorem N9(R:RelH K ι μ H)(E:Ext ι μ.length H ι2 μ2.length H2)(R2:RelH K ι2 μ2 H2)(t:Gr μ μ2 μ' d' d):
  Ext ι μ.length H ι2 μ'.length H2/\RelH K ι2 μ' H2/\∀v,Is K ι2 μ2.length H2 d' v->Is K ι2 μ'.length H2 d v:=by
 obtain⟨⟨g,hg⟩,le,old,conv⟩:=t;have hle:μ'.length<=μ2.length:=by rw[hg];simp
 have hget:∀(n:Nat) (o:MO),μ'[n]?=some o->μ2[n]?=some o:=λn o e=>by
  rw[hg,AAS (AAT.mp e).1];exact e
 refine⟨⟨le,E.agree,λn h1 h2=>E.fresh n h1 (AAM h2 hle),E.keep,E.was,E.there⟩,⟨λi j hi hj=>R2.inj i j (AAM hi hle) (AAM hj hle),λn o e=>?_⟩,λv iv=>?_⟩
 ·obtain⟨u,q,hq⟩:=R2.obj n o (hget n o e);refine⟨u,q,hq.down hle ?_⟩;rcases old n o e with z|z
  ·obtain⟨u0,_,h0⟩:=R.obj n o z;have c:=h0.cl;cases o with
   |lst ds=>exact clL_mono le c
   |dK l=>exact clL_mono le c
   |dC l=>exact clL_mono le c
   |ins n l=>exact clL_mono le c
   |dP l=>exact⟨clL_mono le c.1,clL_mono le c.2⟩
   |exc c n=>exact trivial
  ·exact z
 ·rcases conv with ⟨rfl,c⟩|⟨n,ds,rfl,hn,hle2,rfl,c⟩
  ·exact iv.down hle c
  ·obtain⟨u,q,vs,rfl,il⟩:=R2.obj n _ hn;have hn2:n<μ2.length:=(AAT.mp hn).1;unfold Is at iv ⊢;refine⟨ι2 n,vs,iv.2,q,λm hm z=>?_,il.down hle c⟩;have:=R2.inj m n (AAM hm hle) hn2 z;omega
where
 cl_mono {k k':Nat} (h:k<=k'):∀{d:D},Cl k d->Cl k' d
  | .non,_=>by unfold Cl;trivial
  | .bl _,_=>by unfold Cl;trivial
  | .int _,_=>by unfold Cl;trivial
  | .str _,_=>by unfold Cl;trivial
  | .ty _,_=>by unfold Cl;trivial
  | .scr _,_=>by unfold Cl;trivial
  | .tup ds,c=>by unfold Cl at c ⊢;exact clL_mono h c
  | .lst ds,c=>by unfold Cl at c ⊢;exact clL_mono h c
  | .ref n,c=>by unfold Cl at c ⊢;exact AAM c h
 clL_mono {k k':Nat} (h:k<=k'):∀{ds:List D},ClL k ds->ClL k' ds
  |[],_=>by unfold ClL;trivial
  |_::_,c=>by unfold ClL at c ⊢;exact⟨cl_mono h c.1,clL_mono h c.2⟩
noncomputable def BQ(n:Nat)(ds:List D):Sl:=ds.map some++List.replicate (n-ds.length) none
theorem RelS.start(i:IsL K ι k H ds vs):RelS K ι k H (BQ N.length ds) (L2.start N vs):=by
 have hl:=i.length;refine⟨by simp[BQ,L2.start,hl],λj d e=>?_⟩;unfold BQ at e;unfold L2.start;rcases Nat.lt_or_ge j ds.length with z|z
 ·rw[AAS (by simpa using z),AAV] at e;rw[AAS (by simpa[hl] using z),AAV];cases q:ds[j]? with
  |none=>rw[q] at e;cases e
  |some d0=>
   rw[q] at e;cases e;obtain⟨v,ev,iv⟩:=i.get q;exact⟨v,by rw[ev];rfl,iv⟩
 ·rw[AAR (by simpa using z),List.getElem?_replicate] at e;split at e<;>cases e
theorem MR(F:Fun K x qual st f fd)(S:Ac N ps (AN st))(hn:ps.length=n:=by rfl)
  (body:∀(cdv:Value) (A:Around) (outer:List Env) (s:Shared) (H:Hp) (E:XK),Room k (A.deeper (PyProof.Rows.envOfC qual (AN st) s.heap.objs.size f cdv))->RSs (Ip CX0 P w K mg base N qual (AN st) f cdv A outer s H E).nox (CU st) mb)
  (run:∀ds μ d μ',φ ds μ=some (d,μ')->∃fl τ2 μ2,mb (BQ N.length ds) μ=some ((fl,τ2),μ2)/\(fl=.next∨∃d,fl=.rt d)/\Gr μ μ2 μ' (HE fl) d):FnOk P w K mg base CX0 (k+1) f fd ps (spM ⟨K,w⟩ n φ):=by
 refine F.ok S (λvs H Q E h=>by rw[hn];exact h.1) (λcdv A outer s H vs Q E hr h=>⟨_,(body cdv A outer s H E hr).pe,?_⟩);obtain⟨hl,ι,μ,ds,d,μ',R,i,e,q⟩:=h;obtain⟨fl,τ2,μ2,e2,hfl,t⟩:=run ds μ d μ' e;refine⟨ι,μ,_,fl,τ2,μ2,R,RelS.start i,e2,λι2 H2 E2 R2 σ2 S2=>?_⟩;obtain⟨E3,R3,c⟩:=N9 R E2 R2 t;rcases hfl with rfl|⟨d0,rfl⟩
 ·exact q ι2 H2 E3 R3 _ (c _ (by unfold HE Is;rfl))
 ·exact λv iv=>q ι2 H2 E3 R3 v (c v iv)
end
noncomputable def Bs:D->M (List D)
 | .lst ds=>ret ds
 | .scr ns=>ret (ns.map D.int)
 | .ref n=>λμ=>match μ[n]? with
  |some (.lst ds)=>some (ds,μ)
  |_=>none
 |_=>BO
section
variable{K:KW}{ι:Nat->Addr}{μ μ':Mh}{H:Hp}{d:D}{v:V}{ds:List D}
theorem D6(R:RelH K ι μ H)(i:Is K ι μ.length H d v)(e:Bs d μ=some (ds,μ')):μ'=μ/\∃p vs,v=.ref p/\SqL K H p vs/\IsL K ι μ.length H ds vs:=by
 cases d with
 |lst es=>
  cases e;unfold Is at i;obtain⟨p,vs,rfl,h1,hn,h2⟩:=i;exact⟨rfl,p,vs,rfl,SqL.of h1,h2⟩
 |scr ns=>
  cases e;unfold Is at i;obtain⟨p,rfl,h1⟩:=i;exact⟨rfl,p,_,rfl,h1.sq,IsL.ofInts ns⟩
 |ref n=>
  unfold Is at i;obtain⟨hn,rfl⟩:=i;have e':(match μ[n]? with|some (.lst ds)=>some (ds,μ)|_=>none)=some (ds,μ'):=e;split at e'
  ·rename_i es hq;cases e';obtain⟨u,h1,vs,rfl,h2⟩:=R.obj n _ hq;exact⟨rfl,_,vs,rfl,SqL.of h1,h2⟩
  ·cases e'
 |_=>cases e
theorem CC(h:Is K ι μ.length H (.int i) v):v=.int i:=by unfold Is at h;exact h
theorem B1(h:Is K ι μ.length H (.str i) v):v=.str i:=by unfold Is at h;exact h
theorem V0(h:Is K ι μ.length H (.bl i) v):v=.bl i:=by unfold Is at h;exact h
theorem P4(h:Is K ι μ.length H .non v):v=.non:=by unfold Is at h;exact h
theorem dB(h:Is K ι μ.length H (.ty n) v):v=.ty n:=by unfold Is at h;exact h
theorem ofI(i:Int):Is K ι k H (.int i) (.int i):=by unfold Is;rfl
theorem ofS(i:Str):Is K ι k H (.str i) (.str i):=by unfold Is;rfl
theorem ofB(i:Bool):Is K ι k H (.bl i) (.bl i):=by unfold Is;rfl
theorem ofN:Is K ι k H .non .non:=by unfold Is;rfl
theorem Es(h:IsL K ι k H [d] vs):∃v,vs=[v]/\Is K ι k H d v:=by
 unfold IsL at h;obtain⟨v,vs',rfl,h1,h2⟩:=h;unfold IsL at h2;subst h2;exact⟨v,rfl,h1⟩
theorem LE(h:IsL K ι k H [d,d'] vs):∃v v',vs=[v,v']/\Is K ι k H d v/\Is K ι k H d' v':=by
 unfold IsL at h;obtain⟨v,vs',rfl,h1,h2⟩:=h;obtain⟨v',rfl,h3⟩:=Es h2;exact⟨v,v',rfl,h1,h3⟩
theorem bJ(h:IsL K ι k H ds vs)(e:atI ds i=some d):∃v,atI vs i=some v/\Is K ι k H d v:=by
 unfold atI at e ⊢;rw[h.length];cases q:ixN ds.length i with
 |none=>rw[q] at e;cases e
 |some j=>
  rw[q] at e;exact h.get e
theorem WI(h:IsL K ι k H ds vs):IsL K ι k H ((ds.drop (HT.sIx ds.length 0 lo)).take (HT.sIx ds.length ds.length hi-HT.sIx ds.length 0 lo)) (Op vs lo hi):=by
 unfold Op;rw[h.length];exact(h.drop _).take _
end
noncomputable def NR(C:Int->Int->Prop)[∀i j,Decidable (C i j)](g:Int->Int->D):D->D->M D
 | .int i,.int j=>λμ=>if C i j then some (g i j,μ) else none
 |_,_=>BO
noncomputable def Em:D->D->M D:=NR (λ_ _=>True) λi j=>.int (i-j)
noncomputable def JL:D->D->M D:=NR (λ_ j=>0<j/\j<1073741824) λi j=>.int (i / j)
noncomputable def Jl:D->D->M D:=NR (λ_ j=>0<j) λi j=>.int (i % j)
noncomputable def U5:D->D->M D:=NR (λi j=>0<=j/\j<=1000000/\i.natAbs<2 ^ 64) λi j=>.int (i ^ j.toNat)
noncomputable def Ez:D->D->M D:=NR (λ_ _=>True) λi j=>.bl (decide (i<j))
noncomputable def Kt:D->D->M D:=NR (λ_ _=>True) λi j=>.bl (decide (i<=j))
noncomputable def M7:D->D->M D:=NR (λ_ _=>True) λi j=>.bl (decide (j<i))
noncomputable def U6:D->D->M D:=NR (λ_ _=>True) λi j=>.bl (decide (j<=i))
section
variable{X:Cx}
theorem GZ[∀i j,Decidable (C i j)](hg:∀i j ι k H,Is X.kw ι k H (g i j) (gv i j))(ho:OpR X f (rI C gv)):OpR X f (rM X.kw (NR C g)):=OpR.wk ho λx y H Q h=>by
 obtain⟨ι,μ,a,b,d,μ',R,ia,ib,e,q⟩:=h;cases a with
 |int i=>
  cases b with
  |int j=>
   have e':(if C i j then some (g i j,μ) else none)=some (d,μ'):=e;split at e'
   ·rename_i hc;cases e';exact⟨i,j,CC ia,CC ib,hc,q ι H R.ext0 R _ (hg i j _ _ _)⟩
   ·cases e'
  |_=>cases e
 |_=>cases e
theorem OpR.ofI0(ho:OpR X f (rI0 gv)):OpR X f (rI (λ_ _=>True) gv):=OpR.wk ho λx y H Q h=>by
 obtain⟨i,j,h1,h2,_,q⟩:=h;exact⟨i,j,h1,h2,q⟩
theorem GY:OpR X (binaryOp .Sub) (rM X.kw Em):=GZ (λ_ _ _ _ _=>ofI _) (OpR.ofI0 Z6)
theorem NG:OpR X (binaryOp .FloorDiv) (rM X.kw JL):=GZ (λ_ _ _ _ _=>ofI _) Xk
theorem MB:OpR X (binaryOp .Mod) (rM X.kw Jl):=GZ (λ_ _ _ _ _=>ofI _) aB
theorem ci:OpR X (binaryOp .Pow) (rM X.kw U5):=GZ (λ_ _ _ _ _=>ofI _) Z8
theorem Le:OpR X (compareOp .Lt) (rM X.kw Ez):=GZ (λ_ _ _ _ _=>ofB _) (OpR.ofI0 cX)
theorem OP:OpR X (compareOp .LtE) (rM X.kw Kt):=GZ (λ_ _ _ _ _=>ofB _) (OpR.ofI0 cY)
theorem aF:OpR X (compareOp .Gt) (rM X.kw M7):=GZ (λ_ _ _ _ _=>ofB _) (OpR.ofI0 cZ)
theorem cj:OpR X (compareOp .GtE) (rM X.kw U6):=GZ (λ_ _ _ _ _=>ofB _) (OpR.ofI0 cb)
noncomputable def Qz:D->M D
 | .int i=>ret (.int (-i))
 |_=>BO
theorem Va:UnR X (unaryOp .USub) (rM1 X.kw Qz):=λpins s σ H x v Q I r h=>by
 obtain⟨ι,μ,a,d,μ',R,ia,e,q⟩:=h;cases a with
 |int i=>
  cases e;have z:=CC ia;subst z;exact Y9 pins s σ H _ v Q I r ⟨i,rfl,q ι H R.ext0 R _ (ofI _)⟩
 |_=>cases e
noncomputable def Bf:D->D->M D
 | .int i,.int j=>ret (.int (i+j))
 | .str i,.str j=>bnd (lim (i.length+j.length)) λ_=>ret (.str (i++j))
 | .lst a,.lst b=>BE (a++b)
 | .tup [],.tup b=>BO
 | .tup (a::as),.tup b=>BU (a::as++b)
 |_,_=>BO
theorem DX:OpR X (binaryOp .Add) (rM X.kw Bf):=λpins s σ H x y v u Q I rx ry h=>by
 obtain⟨ι,μ,a,b,d,μ',R,ia,ib,e,q⟩:=h;unfold Bf at e;split at e
 ·cases e;cases CC ia;cases CC ib;exact aE pins s σ H _ _ v u Q I rx ry ⟨_,_,rfl,rfl,q ι H R.ext0 R _ (ofI _)⟩
 ·obtain⟨_,μ1,e1,e2⟩:=AI e;obtain⟨hl,rfl⟩:=CG e1;cases e2;cases B1 ia;cases B1 ib;exact Pp pins s σ H _ _ v u Q I rx ry ⟨_,_,rfl,rfl,hl,q ι H R.ext0 R _ (ofS _)⟩
 ·unfold Is at ia ib;obtain⟨p,vs,rfl,h1,hn,h2⟩:=ia;obtain⟨p',vs',rfl,h1',hn',h2'⟩:=ib;obtain⟨hl,w⟩:=EA R (h2.append h2') e q;exact NF pins s σ H _ _ v u Q I rx ry ⟨p,p',vs,vs',rfl,rfl,h1,h1',by rw[←AAG];exact hl,w⟩
 ·cases e
 ·rename_i a as bs;unfold Is at ia ib;obtain⟨p,vs,rfl,h1,h2⟩:=ia;obtain⟨p',vs',rfl,h1',h2'⟩:=ib;obtain⟨hl,w⟩:=RD R (h2.append h2') e q;refine Xl pins s σ H _ _ v u Q I rx ry ⟨p,p',vs,vs',rfl,rfl,h1,h1',λz=>?_,by rw[←AAG];exact hl,λz=>?_,λ_=>w⟩
  ·have:=h2.length;rw[z] at this;cases this
  ·subst z;have hb:bs=[]:=by
    have:=h2'.length;cases bs with
    |nil=>rfl
    |cons _ _=>cases this
   subst hb;obtain⟨_,μ1,e1,e2⟩:=AI e;obtain⟨hl,rfl⟩:=CG e1;cases e2;exact q ι H R.ext0 R _ (by unfold Is;exact⟨p,vs,rfl,h1,by rw[AAY];exact h2⟩)
 ·cases e
noncomputable def FY:D->D->M D
 | .int i,.int j=>λμ=>if (-(2 ^ 64)<i/\i<2 ^ 64)∨(-(2 ^ 64)<j/\j<2 ^ 64) then some (.int (i * j),μ) else none
 | .lst a,.int j=>λμ=>if -(2 ^ 63)<=j/\j<2 ^ 63/\a.length * j.toNat<=sizeLine then BE (List.replicate j.toNat a).flatten μ else none
 |_,_=>BO
theorem IsL.rep(h:IsL K ι k H ds vs):∀n:Nat,IsL K ι k H (List.replicate n ds).flatten (List.replicate n vs).flatten
 |0=>.nil
 |n+1=>by
  rw[AAj,AAj,List.flatten_cons,List.flatten_cons];exact h.append (IsL.rep h n)
theorem K0:OpR X (binaryOp .Mult) (rM X.kw FY):=λpins s σ H x y v u Q I rx ry h=>by
 obtain⟨ι,μ,a,b,d,μ',R,ia,ib,e,q⟩:=h;unfold FY at e;split at e
 ·split at e
  ·rename_i hc;cases e;cases CC ia;cases CC ib;exact aA pins s σ H _ _ v u Q I rx ry ⟨_,_,rfl,rfl,hc,q ι H R.ext0 R _ (ofI _)⟩
  ·cases e
 ·split at e
  ·rename_i hc;cases CC ib;unfold Is at ia;obtain⟨p,vs,rfl,h1,hn,h2⟩:=ia;obtain⟨hl,w⟩:=EA R (h2.rep _) e q;exact Z7 pins s σ H _ _ v u Q I rx ry ⟨p,_,vs,rfl,rfl,h1,hc.1,hc.2.1,by rw[h2.length];exact hc.2.2,w⟩
  ·cases e
 ·cases e
mutual
def toP(μ:Mh):D->Option PyData
 | .non=>some .none
 | .bl b=>some (.bool b)
 | .int i=>some (.int i)
 | .str x=>some (.str x)
 | .ty _=>none
 | .scr ns=>some (.list (ns.map PyData.int))
 | .tup ds=>(GG μ ds).map PyData.tuple
 | .lst ds=>(GG μ ds).map PyData.list
 | .ref _=>none
def GG(μ:Mh):List D->Option (List PyData)
 |[]=>some []
 |d::ds=>(toP μ d).bind λp=>(GG μ ds).map (p::·)
end
noncomputable def My(μ:Mh):D->Option PyData
 | .ref n=>match μ[n]? with
  |some (.lst ds)=>(GG μ ds).map PyData.list
  |_=>none
 |d=>toP μ d
section
variable{K:KW}{ι:Nat->Addr}{μ:Mh}{H:Hp}{k:Nat}
theorem Rt:∀(ns:List Int),DatVs K H (ns.map V.int) (ns.map PyData.int)
 |[]=>.nil
 |n::r=>.cons (.int n) (Rt r)
mutual
theorem Is.dat:∀{d:D} {v:V} {p:PyData},Is K ι k H d v->toP μ d=some p->DatV K H v p
 | .non,_,_,h,e=>by unfold Is at h;unfold toP at e;cases e;subst h;exact .non
 | .bl b,_,_,h,e=>by unfold Is at h;unfold toP at e;cases e;subst h;exact .bl b
 | .int b,_,_,h,e=>by unfold Is at h;unfold toP at e;cases e;subst h;exact .int b
 | .str b,_,_,h,e=>by unfold Is at h;unfold toP at e;cases e;subst h;exact .str b
 | .ty b,_,_,h,e=>by unfold toP at e;cases e
 | .scr ns,_,_,h,e=>by
  unfold Is at h;unfold toP at e;cases e;obtain⟨p,rfl,h⟩:=h;exact .lst h.sq (Rt ns)
 | .tup ds,_,_,h,e=>by
  unfold Is at h;unfold toP at e;obtain⟨p,vs,rfl,h1,h2⟩:=h;cases q:GG μ ds with
  |none=>rw[q] at e;cases e
  |some ps=>rw[q] at e;cases e;exact .tup h1 (IsL.dat h2 q)
 | .lst ds,_,_,h,e=>by
  unfold Is at h;unfold toP at e;obtain⟨p,vs,rfl,h1,_,h2⟩:=h;cases q:GG μ ds with
  |none=>rw[q] at e;cases e
  |some ps=>rw[q] at e;cases e;exact .lst (SqL.of h1) (IsL.dat h2 q)
 | .ref n,_,_,h,e=>by unfold toP at e;cases e
theorem IsL.dat:∀{ds:List D} {vs:List V} {ps:List PyData},IsL K ι k H ds vs->GG μ ds=some ps->DatVs K H vs ps
 |[],_,_,h,e=>by unfold IsL at h;unfold GG at e;cases e;subst h;exact .nil
 |d::ds,_,_,h,e=>by
  unfold IsL at h;unfold GG at e;obtain⟨v,vs',rfl,h1,h2⟩:=h;cases q:toP μ d with
  |none=>rw[q] at e;cases e
  |some p=>
   rw[q] at e;cases q2:GG μ ds with
   |none=>rw[q2] at e;cases e
   |some ps=>rw[q2] at e;cases e;exact .cons (Is.dat h1 q) (IsL.dat h2 q2)
end
theorem YL(R:RelH K ι μ H)(h:Is K ι μ.length H d v)(e:My μ d=some p):DatV K H v p:=by
 cases d with
 |ref n=>
  unfold Is at h;obtain⟨_,rfl⟩:=h;have e':(match μ[n]? with|some (.lst ds)=>(GG μ ds).map PyData.list|_=>none)=some p:=e;split at e'
  ·rename_i ds hq;obtain⟨u,h1,vs,rfl,h2⟩:=R.obj n _ hq;cases q:GG μ ds with
   |none=>rw[q] at e';cases e'
   |some ps=>rw[q] at e';cases e';exact .lst (SqL.of h1) (IsL.dat h2 q)
  ·cases e'
 |_=>exact Is.dat (μ:=μ) h e
end
noncomputable def HM(neg:Bool)(a b:D):M D:=λμ=>match My μ a,My μ b with
 |some p,some q=>if SeqAt.shaped p=true/\SeqAt.shaped q=true then some (.bl (if neg then !PyData.eqv p q else PyData.eqv p q),μ) else none
 |_,_=>none
noncomputable def A3:D->D->M D:=HM false
noncomputable def Cj:D->D->M D:=HM true
theorem Ku(e:HM neg a b μ=some (d,μ')):∃p q,My μ a=some p/\My μ b=some q/\SeqAt.shaped p=true/\SeqAt.shaped q=true/\d=.bl (if neg then !PyData.eqv p q else PyData.eqv p q)/\μ'=μ:=by
 unfold HM at e;split at e
 ·rename_i p q e1 e2;split at e
  ·rename_i h;cases e;exact⟨p,q,e1,e2,h.1,h.2,rfl,rfl⟩
  ·cases e
 ·cases e
theorem Bw(hr:Room k X.A):OpR X (compareOp .Eq) (rM X.kw A3):=OpR.wk (aD (Up hr)) λx y H Q h=>by
 obtain⟨ι,μ,a,b,d,μ',R,ia,ib,e,q⟩:=h;obtain⟨p,p',e1,e2,s1,s2,rfl,rfl⟩:=Ku e;exact⟨p,p',YL R ia e1,YL R ib e2,s1,s2,q ι H R.ext0 R _ (ofB _)⟩
theorem JM(hr:Room k X.A):OpR X (compareOp .NotEq) (rM X.kw Cj):=OpR.wk (Z9 (Up hr)) λx y H Q h=>by
 obtain⟨ι,μ,a,b,d,μ',R,ia,ib,e,q⟩:=h;obtain⟨p,p',e1,e2,s1,s2,rfl,rfl⟩:=Ku e;exact⟨p,p',YL R ia e1,YL R ib e2,s1,s2,q ι H R.ext0 R _ (ofB _)⟩
noncomputable def isN:D->Bool
 | .non=>true
 |_=>false
noncomputable def FL(neg:Bool):D->D->M D
 |a,.non=>ret (.bl (if neg then !isN a else isN a))
 |_,_=>BO
theorem Rh(h:Is K ι k H a x):decide (x=V.non)=isN a:=by
 cases a with
 |non=>unfold Is at h;subst h;rfl
 |bl b=>unfold Is at h;subst h;rfl
 |int b=>unfold Is at h;subst h;rfl
 |str b=>unfold Is at h;subst h;rfl
 |ty b=>unfold Is at h;subst h;rfl
 |scr ns=>unfold Is at h;obtain⟨p,rfl,_⟩:=h;rfl
 |tup ns=>unfold Is at h;obtain⟨p,o,rfl,_⟩:=h;rfl
 |lst ns=>unfold Is at h;obtain⟨p,o,rfl,_⟩:=h;rfl
 |ref ns=>unfold Is at h;obtain⟨_,rfl⟩:=h;rfl
theorem OQ:OpR X (compareOp .Is) (rM X.kw (FL false)):=OpR.wk aC λx y H Q h=>by
 obtain⟨ι,μ,a,b,d,μ',R,ia,ib,e,q⟩:=h;cases b with
 |non=>cases e;exact⟨P4 ib,by rw[Rh ia];exact q ι H R.ext0 R _ (ofB _)⟩
 |_=>cases e
theorem Xp:OpR X (compareOp .IsNot) (rM X.kw (FL true)):=OpR.wk Xj λx y H Q h=>by
 obtain⟨ι,μ,a,b,d,μ',R,ia,ib,e,q⟩:=h;cases b with
 |non=>cases e;exact⟨P4 ib,by rw[Rh ia];exact q ι H R.ext0 R _ (ofB _)⟩
 |_=>cases e
noncomputable def MU:D->Option V
 | .non=>some .non
 | .bl b=>some (.bl b)
 | .int i=>some (.int i)
 | .str x=>some (.str x)
 |_=>none
noncomputable def JU:List D->Option (List V)
 |[]=>some []
 |d::ds=>(MU d).bind λv=>(JU ds).map (v::·)
section
variable{K:KW}{ι:Nat->Addr}{H:Hp}{k:Nat}
theorem Om(h:Is K ι k H d x)(e:MU d=some v):x=v/\HU v=true:=by
 cases d with
 |non=>cases e;unfold Is at h;exact⟨h,rfl⟩
 |bl b=>cases e;unfold Is at h;exact⟨h,rfl⟩
 |int b=>cases e;unfold Is at h;exact⟨h,rfl⟩
 |str b=>cases e;unfold Is at h;exact⟨h,rfl⟩
 |_=>cases e
theorem MT:∀{ds:List D} {vs xs:List V},IsL K ι k H ds xs->JU ds=some vs->xs=vs/\vs.all HU=true
 |[],_,_,h,e=>by cases e;unfold IsL at h;exact⟨h,rfl⟩
 |d::ds,_,_,h,e=>by
  unfold IsL at h;obtain⟨v,vs',rfl,h1,h2⟩:=h;unfold JU at e;cases q:MU d with
  |none=>rw[q] at e;cases e
  |some w=>
   rw[q] at e;cases q2:JU ds with
   |none=>rw[q2] at e;cases e
   |some ws=>
    rw[q2] at e;cases e;obtain⟨rfl,f1⟩:=Om h1 q;obtain⟨rfl,f2⟩:=MT h2 q2;exact⟨rfl,by rw[List.all_cons,f1,f2];rfl⟩
end
noncomputable def Bl:D->M (List D)
 | .tup ds=>ret ds
 |d=>Bs d
theorem HB(R:RelH K ι μ H)(i:Is K ι μ.length H d v)(e:Bl d μ=some (ds,μ')):μ'=μ/\∃p vs,v=.ref p/\(SqL K H p vs∨SqT K H p vs)/\IsL K ι μ.length H ds vs:=by
 cases d with
 |tup es=>
  cases e;unfold Is at i;obtain⟨p,vs,rfl,h1,h2⟩:=i;exact⟨rfl,p,vs,rfl,.inr h1,h2⟩
 |lst es=>obtain⟨h,p,vs,a,b,c⟩:=D6 R i e;exact⟨h,p,vs,a,.inl b,c⟩
 |scr es=>obtain⟨h,p,vs,a,b,c⟩:=D6 R i e;exact⟨h,p,vs,a,.inl b,c⟩
 |ref es=>obtain⟨h,p,vs,a,b,c⟩:=D6 R i e;exact⟨h,p,vs,a,.inl b,c⟩
 |_=>cases e
noncomputable def HS(neg:Bool)(a b:D):M D:=bnd (Bl b) λds=>λμ=>match MU a,JU ds with
 |some x,some xs=>some (.bl (if neg then !inV x xs else inV x xs),μ)
 |_,_=>none
noncomputable def Co(neg:Bool):D->D->M D
 | .str i,.str j=>ret (.bl (if neg then !(!(Builtin.Str.occurrences j i 0 j.length 1).isEmpty) else !(Builtin.Str.occurrences j i 0 j.length 1).isEmpty))
 |a,b=>HS neg a b
theorem U3(R:RelH K ι μ H)(ia:Is K ι μ.length H a x)(ib:Is K ι μ.length H b y)(e:HS neg a b μ=some (d,μ'))(q:Aft K ι μ H μ' λι' H'=>∀v,Is K ι' μ'.length H' d v->Q v H'):rIn K neg x y H Q:=by
 obtain⟨ds,μ1,e1,e2⟩:=AI e;obtain⟨hm,p,vs,rfl,h1,h2⟩:=HB R ib e1;subst hm;split at e2
 ·rename_i w ws q1 q2;cases e2;obtain⟨rfl,f1⟩:=Om ia q1;obtain⟨rfl,f2⟩:=MT h2 q2;exact⟨p,_,rfl,h1,f1,f2,q ι H R.ext0 R _ (ofB _)⟩
 ·cases e2
theorem Hk:OpR X (compareOp .In) (rM X.kw (Co false)):=λpins s σ H x y v u Q I rx ry h=>by
 obtain⟨ι,μ,a,b,d,μ',R,ia,ib,e,q⟩:=h;unfold Co at e;split at e
 ·cases e;cases B1 ia;cases B1 ib;exact Sg pins s σ H _ _ v u Q I rx ry ⟨_,_,rfl,rfl,q ι H R.ext0 R _ (ofB _)⟩
 ·exact Sh pins s σ H _ _ v u Q I rx ry (U3 R ia ib e q)
theorem Xo:OpR X (compareOp .NotIn) (rM X.kw (Co true)):=λpins s σ H x y v u Q I rx ry h=>by
 obtain⟨ι,μ,a,b,d,μ',R,ia,ib,e,q⟩:=h;unfold Co at e;split at e
 ·cases e;cases B1 ia;cases B1 ib;exact ND pins s σ H _ _ v u Q I rx ry ⟨_,_,rfl,rfl,q ι H R.ext0 R _ (ofB _)⟩
 ·exact NE pins s σ H _ _ v u Q I rx ry (U3 R ia ib e q)
noncomputable def ixD(ds:List D)(i:Int):M D:=λμ=>(atI ds i).map λd=>(d,μ)
noncomputable def AU:D->D->M D
 | .str z,.int i=>λμ=>if z.length<=sizeLine then (atI z.cps.toList i).map λc=>(.str ⟨#[c]⟩,μ) else none
 |a,.int i=>bnd (Bl a) λds=>ixD ds i
 |_,_=>BO
theorem An:IxR X (rM X.kw AU):=λva sl pins s σ H x y v u Q I rx ry h hsl=>by
 obtain⟨ι,μ,a,b,d,μ',R,ia,ib,e,q⟩:=h;unfold AU at e;split at e
 ·split at e
  ·rename_i z i hl;cases B1 ia;cases CC ib;cases qq:atI z.cps.toList i with
   |none=>rw[qq] at e;cases e
   |some c=>
    rw[qq] at e;cases e;exact P3 va sl pins s σ H _ _ v u Q I rx ry (.inr (.inr ⟨z,i,c,rfl,rfl,hl,qq,q ι H R.ext0 R _ (ofS _)⟩)) hsl
  ·cases e
 ·cases CC ib;obtain⟨ds,μ1,e1,e2⟩:=AI e;obtain⟨hm,p,vs,rfl,h1,h2⟩:=HB R ia e1;subst hm;rename_i i _;unfold ixD at e2;cases qq:atI ds i with
  |none=>rw[qq] at e2;cases e2
  |some c=>
   rw[qq] at e2;cases e2;obtain⟨w,ew,iw⟩:=bJ h2 qq;rcases h1 with h1|h1
   ·exact P3 va sl pins s σ H _ _ v u Q I rx ry (.inl ⟨p,vs,i,w,rfl,rfl,h1,ew,q ι H R.ext0 R _ iw⟩) hsl
   ·exact P3 va sl pins s σ H _ _ v u Q I rx ry (.inr (.inl ⟨p,vs,i,w,rfl,rfl,h1,ew,q ι H R.ext0 R _ iw⟩)) hsl
 ·cases e
noncomputable def Bq:List D->M D
 |[.str z]=>λμ=>if z.length<=sizeLine then some (.int z.length,μ) else none
 |[.ref n]=>λμ=>match μ[n]? with
  |some (.lst ds)=>some (.int ds.length,μ)
  |_=>none
 |[d]=>bnd (Bl d) λds=>ret (.int ds.length)
 |_=>BO
theorem B5:Cd X (.builtin "len") (rMA X.kw Bq):=λpins s σ H xs us Q I r h=>by
 obtain⟨ι,μ,as,d,μ',R,ia,e,q⟩:=h;refine WM pins s σ H xs us Q I r ?_;unfold Bq at e;split at e
 ·rename_i z;obtain⟨v,rfl,i1⟩:=Es ia;split at e
  ·rename_i hl;cases e;cases B1 i1;exact⟨_,_,rfl,⟨hl,rfl⟩,q ι H R.ext0 R _ (ofI _)⟩
  ·cases e
 ·rename_i n;obtain⟨v,rfl,i1⟩:=Es ia;unfold Is at i1;obtain⟨_,rfl⟩:=i1;split at e
  ·rename_i ds hq;cases e;obtain⟨u,h1,vs,rfl,h2⟩:=R.obj n _ hq;exact⟨_,_,rfl,.inl ⟨vs,SqL.of h1,rfl⟩,by rw[h2.length];exact q ι H R.ext0 R _ (ofI _)⟩
  ·cases e
 ·obtain⟨v,rfl,i1⟩:=Es ia;obtain⟨ds,μ1,e1,e2⟩:=AI e;obtain⟨hm,p,vs,rfl,h1,h2⟩:=HB R i1 e1;subst hm;cases e2;rw[←h2.length] at q;rcases h1 with h1|h1
  ·exact⟨_,_,rfl,.inl ⟨vs,h1,rfl⟩,q ι H R.ext0 R _ (ofI _)⟩
  ·exact⟨_,_,rfl,.inr ⟨vs,h1,rfl⟩,q ι H R.ext0 R _ (ofI _)⟩
 ·cases e
noncomputable def FO(ds:List D)(lo hi:Option Int):List D:=(ds.drop (HT.sIx ds.length 0 lo)).take (HT.sIx ds.length ds.length hi-HT.sIx ds.length 0 lo)
noncomputable def Pi(lo hi:Option Int):D->M D
 | .tup ds=>if HT.sIx ds.length 0 lo=0/\HT.sIx ds.length ds.length hi=ds.length then BO else ret (.tup (FO ds lo hi))
 |d=>bnd (Bs d) λds=>ret (.lst (FO ds lo hi))
noncomputable def rMS(K:KW):V->Option Int->Option Int->Hp->VK->Prop:=λx lo hi H Q=>∃ι μ a d μ',RelH K ι μ H/\Is K ι μ.length H a x/\Pi lo hi a μ=some (d,μ') /\
 Aft K ι μ H μ' λι' H'=>∀v,Is K ι' μ'.length H' d v->Q v H'
theorem Yp{K:KW}{ι:Nat->Addr}{μ:Mh}{vs:List V}{Q:VK}(R:RelH K ι μ H)(i:IsL K ι μ.length H ds vs)(q:Aft K ι μ H μ λι' H'=>∀v,Is K ι' μ.length H' (.lst ds) v->Q v H')(p:Addr)(hp:H p=none):Q (.ref p) (upd H p (.lst vs)):=by
 obtain⟨E1,R1⟩:=R.laid (.lst vs) hp;have ho:∀n,n<μ.length->ι n≠p:=λn hn z=>by
  obtain⟨o,e,_⟩:=R.muts n hn;rw[z,hp] at e;cases e
 exact q ι _ E1 R1 _ (by unfold Is;exact⟨p,vs,rfl,Bt,ho,i.ext E1⟩)
theorem Vm{K:KW}{ι:Nat->Addr}{μ:Mh}{vs:List V}{Q:VK}(R:RelH K ι μ H)(i:IsL K ι μ.length H ds vs)(q:Aft K ι μ H μ λι' H'=>∀v,Is K ι' μ.length H' (.tup ds) v->Q v H')(p:Addr)(hp:H p=none):Q (.ref p) (upd H p (.tup vs)):=by
 obtain⟨E1,R1⟩:=R.laid (.tup vs) hp;exact q ι _ E1 R1 _ (by unfold Is;exact⟨p,vs,rfl,SqT.of Bt,i.ext E1⟩)
theorem cg:SlR X (rMS X.kw):=λpins s σ H x v vl vu lo hi sl Q I rx hs pl pu h=>by
 obtain⟨ι,μ,a,d,μ',R,ia,e,q⟩:=h;refine(SlR.or W4 ZN) pins s σ H x v vl vu lo hi sl Q I rx hs pl pu ?_;unfold Pi at e;split at e
 ·rename_i ds;unfold Is at ia;obtain⟨p,vs,rfl,h1,h2⟩:=ia;split at e
  ·cases e
  ·rename_i hc;cases e;exact .inr ⟨p,vs,rfl,h1,by rw[h2.length];exact hc,λp hp=>Vm R (WI h2) q p hp⟩
 ·obtain⟨ds,μ1,e1,e2⟩:=AI e;obtain⟨hm,p,vs,rfl,h1,h2⟩:=D6 R ia e1;subst hm;cases e2;exact .inl ⟨p,vs,rfl,h1,λp hp=>Yp R (WI h2) q p hp⟩
noncomputable def mSl(me:Sl->M D)(ml mh:Sl->M (Option Int)):Sl->M D:=λτ=>bnd (me τ) λx=>bnd (ml τ) λl=>bnd (mh τ) λh=>Pi l h x
noncomputable def Bp:Sl->M (Option Int):=λ_=>ret none
noncomputable def asI:D->M (Option Int)
 | .int i=>ret (some i)
 |_=>BO
noncomputable def CQ(m:Sl->M D):Sl->M (Option Int):=λτ=>bnd (m τ) asI
noncomputable def tPt(K:KW)(m:Sl->M (Option Int)):TO:=λσ H Q=>∃ι μ τ b μ',RelH K ι μ H/\RelS K ι μ.length H τ σ/\m τ μ=some (b,μ')/\Aft K ι μ H μ' λ_ H'=>Q b H'
structure RO(X:Cx)(e:Option Expr)(m:Sl->M (Option Int)):Prop where
 pe:PO X e (tPt X.kw m)
theorem PO.wk(h:PO X e t)(w:∀σ H Q,t' σ H Q->t σ H Q):PO X e t':=λpins s σ H Q I q=>h pins s σ H Q I (w σ H Q q)
theorem RO.wk(h:PO X e t)(w:∀σ H Q,tPt X.kw m σ H Q->t σ H Q):RO X e m:=⟨PO.wk h w⟩
theorem B7:RO X none Bp:=RO.wk XX λσ H Q h=>by
 obtain⟨ι,μ,τ,b,μ',R,S,e,q⟩:=h;cases e;exact q ι H R.ext0 R
theorem Bn(h:RE X e m):RO X (some e) (CQ m):=RO.wk (XW h.pe) λσ H Q h=>by
 obtain⟨ι,μ,τ,b,μ',R,S,e,q⟩:=h;obtain⟨x,μ1,e1,e⟩:=AI e;refine⟨ι,μ,τ,x,μ1,R,S,e1,λι1 H1 E1 R1 v i1=>?_⟩;cases x with
 |int i=>cases e;exact⟨i,CC i1,q ι1 H1 E1 R1⟩
 |_=>cases e
theorem Ko(he:RE X e me)(hl:RO X lo ml)(hh:RO X hi mh):RE X (.Subscript e (.Slice lo hi none p2) pos) (mSl me ml mh):=RE.wk (ON cg he.pe hl.pe hh.pe) λσ H Q h=>by
 obtain⟨ι,μ,τ,z,μ',R,S,e,q⟩:=h;obtain⟨x,μ1,e1,e⟩:=AI e;obtain⟨l,μ2,e2,e⟩:=AI e;obtain⟨u,μ3,e3,e⟩:=AI e;refine⟨ι,μ,τ,x,μ1,R,S,e1,λι1 H1 E1 R1 v i1=>⟨ι1,μ1,τ,l,μ2,R1,S.ext E1,e2,λι2 H2 E2 R2=>⟨ι2,μ2,τ,u,μ3,R2,S.ext (E1.trans E2),e3,λι3 H3 E3 R3=>?_⟩⟩⟩;have E23:=E2.trans E3;exact⟨ι3,μ3,x,z,μ',R3,i1.ext E23,e,λι4 H4 E4 R4=>q ι4 H4 ((E1.trans E23).trans E4) R4⟩
noncomputable def tyD(μ:Mh):D->Option String
 | .non=>some "NoneType"
 | .bl _=>some "bool"
 | .int _=>some "int"
 | .str _=>some "str"
 | .tup _=>some "tuple"
 | .lst _=>some "list"
 | .scr _=>none
 | .ref n=>match μ[n]? with
  |some (.lst _)=>some "list"
  |some (.dK _)=>some "dict"
  |some (.dC _)=>none
  |some (.ins _ _)=>none
  |some (.dP _)=>none
  |some (.exc _ _)=>none
  |none=>none
 | .ty _=>none
noncomputable def FD(t T:String):Option Bool:=
 if t∈["NoneType", "bool", "int", "str", "tuple", "list", "dict"]/\T∈["bool", "int", "str", "tuple", "list", "dict"] then some (t==T||(t == "bool" && T == "int")) else none
theorem Ra(h:FD t T=some b):PySem.W.kitOne K (.type t) (.type T)=some b:=by
 unfold FD at h;split at h
 ·rename_i hm;obtain⟨h1,h2⟩:=hm;simp only[AAI,List.not_mem_nil,or_false] at h1 h2;rcases h1 with rfl|rfl|rfl|rfl|rfl|rfl|rfl<;>rcases h2 with rfl|rfl|rfl|rfl|rfl|rfl<;>(cases h;kernel_rfl)
 ·cases h
noncomputable def DC:List D->M D
 |[a,.ty T]=>λμ=>match tyD μ a with
  |some t=>(FD t T).map λb=>(.bl b,μ)
  |none=>none
 |_=>BO
theorem D5:Cd X (.builtin "isinstance") (rMA X.kw DC):=λpins s σ H xs us Q I r h=>by
 obtain⟨ι,μ,as,d,μ',R,ia,e,q⟩:=h;unfold DC at e;split at e
 ·rename_i a T;obtain⟨v,v',rfl,i1,i2⟩:=LE ia;cases dB i2;split at e
  ·rename_i t ht;cases hk:FD t T with
   |none=>rw[hk] at e;cases e
   |some b=>
    rw[hk] at e;cases e;have kit:=Ra (K:=X.kw) hk;have fin:=q ι H R.ext0 R _ (ofB b);have byTy:Iw X.kw H v (.type t)->wpAny (model X.prog X.w) X.A (call (.builtin "isinstance") us) (EP X pins σ Q) X.xe s:=λty=>
     Ow pins s σ H _ us Q I r ⟨v,T,_,b,rfl,ty,kit,fin⟩
    cases a with
    |non=>cases ht;cases P4 i1;exact byTy .non
    |bl x=>cases ht;cases V0 i1;exact byTy (.bl x)
    |int x=>cases ht;cases CC i1;exact byTy (.int x)
    |str x=>cases ht;cases B1 i1;exact byTy (.str x)
    |ty n=>cases ht
    |lst ds=>cases ht;unfold Is at i1;obtain⟨p,vs,rfl,h1,_⟩:=i1;exact byTy (.lst h1)
    |scr ns=>cases ht
    |ref n=>
     unfold Is at i1;obtain⟨_,rfl⟩:=i1;have ht:(match μ[n]? with|some (.lst _)=>some "list" |some (.dK _)=>some "dict" |some (.dC _)=>none|some (.ins _ _)=>none|some (.dP _)=>none|some (.exc _ _)=>none|none=>none)=some t:=ht;split at ht
     ·rename_i ds hq;cases ht;obtain⟨u,h1,vs,rfl,h2⟩:=R.obj n _ hq;exact byTy (.lst h1)
     ·rename_i ds hq;cases ht;obtain⟨u,h1,vs,rfl,h2⟩:=R.obj n _ hq;exact byTy (.dK h1)
     ·cases ht
     ·cases ht
     ·cases ht
     ·cases ht
     ·cases ht
    |tup ds=>
     cases ht;unfold Is at i1;obtain⟨p,vs,rfl,h1,h2⟩:=i1;obtain⟨its,_,⟨o,g1,g2,_⟩,_⟩:=I.tuple h1;obtain⟨u1,u2,rfl,r1,r2⟩:=Vals.two r;cases r1;cases r2;exact PySem.W.kia_one PySem.W.kitx_tuple I.kIn ⟨o,g1,g2⟩ kit (λz=>nomatch z) λtk=>⟨.bl b,H,I.tok _,rfl,fin⟩
  ·cases e
 ·cases e
noncomputable def NQ:List D->M D
 |[.int i]=>ret (.int i)
 |[.bl b]=>ret (.int (if b then 1 else 0))
 |_=>BO
theorem WO:Cd X (.type "int") (rMA X.kw NQ):=λpins s σ H xs us Q I r h=>by
 obtain⟨ι,μ,as,d,μ',R,ia,e,q⟩:=h;refine TZ pins s σ H xs us Q I r ?_;unfold NQ at e;split at e
 ·obtain⟨v,rfl,i1⟩:=Es ia;cases e;cases CC i1;exact .inl ⟨_,rfl,q ι H R.ext0 R _ (ofI _)⟩
 ·obtain⟨v,rfl,i1⟩:=Es ia;cases e;cases V0 i1;exact .inr ⟨_,rfl,q ι H R.ext0 R _ (ofI _)⟩
 ·cases e
noncomputable def Xu:List D->M D
 |[.int i,.int j]=>ret (.int (if j > i then j else i))
 |_=>BO
noncomputable def Sn:List D->M D
 |[.int i,.int j]=>ret (.int (if j<i then j else i))
 |_=>BO
theorem de(hc:X.calm=true):Cd X (.builtin "max") (rMA X.kw Xu):=λpins s σ H xs us Q I r h=>by
 obtain⟨ι,μ,as,d,μ',R,ia,e,q⟩:=h;refine TX hc pins s σ H xs us Q I r ?_;unfold Xu at e;split at e
 ·obtain⟨v,w,rfl,i1,i2⟩:=LE ia;cases e;cases CC i1;cases CC i2;exact⟨_,_,rfl,q ι H R.ext0 R _ (ofI _)⟩
 ·cases e
theorem Yy(hc:X.calm=true):Cd X (.builtin "min") (rMA X.kw Sn):=λpins s σ H xs us Q I r h=>by
 obtain⟨ι,μ,as,d,μ',R,ia,e,q⟩:=h;refine TW hc pins s σ H xs us Q I r ?_;unfold Sn at e;split at e
 ·obtain⟨v,w,rfl,i1,i2⟩:=LE ia;cases e;cases CC i1;cases CC i2;exact⟨_,_,rfl,q ι H R.ext0 R _ (ofI _)⟩
 ·cases e
noncomputable def C8:List D->M D
 |[.tup ds]=>ret (.tup ds)
 |[d]=>bnd (Bs d) λds=>ret (.tup ds)
 |_=>BO
theorem F9:Cd X (.type "tuple") (rMA X.kw C8):=λpins s σ H xs us Q I r h=>by
 obtain⟨ι,μ,as,d,μ',R,ia,e,q⟩:=h;unfold C8 at e;split at e
 ·obtain⟨v,rfl,i1⟩:=Es ia;cases e;have i2:=i1;unfold Is at i1;obtain⟨p,vs,rfl,h1,h2⟩:=i1;exact Ov pins s σ H _ us Q I r ⟨p,vs,rfl,h1,q ι H R.ext0 R _ i2⟩
 ·obtain⟨v,rfl,i1⟩:=Es ia;obtain⟨ds,μ1,e1,e2⟩:=AI e;obtain⟨hm,p,vs,rfl,h1,h2⟩:=D6 R i1 e1;subst hm;cases e2;obtain⟨u,rfl,ru⟩:=Vals.one r;cases ru;obtain⟨its,rv,pl,hz⟩:=I.list h1;refine PySem.call_tuple_list pl.isList (λh' hk=>?_) (by rw[List.size_toArray,←rv.length];exact hz);have I1:Inv X pins σ H { s with heap:=h' }:=I.kept (t':=s.toks) hk;have I2:Inv X pins σ (upd H h'.objs.size (.tup vs)) { s with heap:=h'.push { cls:=.type "tuple",data:=.seq its.toArray } }:=I1.laid (t':=s.toks) (o:=.tup vs) (λb ob q=>AAC _ q) (AAE _) ⟨hz,its,rv,PyProof.Rows.IsTup.new _ _⟩;exact⟨.ref h'.objs.size,_,I2,rfl,Vm R h2 q _ (I1.hok.fresh (AAE _))⟩
 ·cases e
end
section
variable{X:Cx}{e a b c o i f tg:Expr}{es:List Expr}{pos apos cpos:Pos}
theorem OA(h:tE K (Er g g' ma mb mc) σ H Q):Pa (rM K g) (rM K g') (tE K ma) (tE K mb) (tE K mc) σ H Q:=by
 obtain⟨ι,μ,τ,d,μ',R,S,e,q⟩:=h;obtain⟨x,μ1,e1,ee1⟩:=AI e;obtain⟨y,μ2,e2,ee2⟩:=AI ee1;obtain⟨z,μ3,e3,ee3⟩:=AI ee2;obtain⟨k,μ4,e4,ee4⟩:=AI ee3;obtain⟨hz,hm⟩:=Ir e4;subst hm;subst hz;refine⟨ι,μ,τ,x,μ1,R,S,e1,λι1 H1 E1 R1 v1 i1=>⟨ι1,μ1,τ,y,μ2,R1,S.ext E1,e2,λι2 H2 E2 R2 v2 i2=>?_⟩⟩;refine⟨ι2,μ2,x,y,_,_,R2,i1.ext E2,i2,e3,λι3 H3 E3 R3 v3 i3=>⟨k,V0 i3,?_⟩⟩;have E13:=(E1.trans E2).trans E3;cases k with
 |false=>cases ee4;exact q ι3 H3 E13 R3 _ (ofB _)
 |true=>
  obtain⟨w,μ5,e5,ee5⟩:=AI ee4;exact⟨ι3,_,τ,w,μ5,R3,S.ext E13,e5,λι4 H4 E4 R4 v4 i4=>⟨ι4,μ5,y,w,d,μ',R4,i2.ext (E3.trans E4),i4,ee5,λι5 H5 E5 R5=>q ι5 H5 ((E13.trans E4).trans E5) R5⟩⟩
theorem Kq(ho:OpR X (compareOp op) (rM X.kw g))(ho':OpR X (compareOp op') (rM X.kw g'))(ha:RE X a ma)(hb:RE X b mb)(hc:RE X c mc)(hm:lastMarks [op,op'] [b,c]=false:=by with_unfolding_all rfl):
  RE X (.Compare a [op,op'] [b,c] pos) (Er g g' ma mb mc):=RE.wk (VS ho ho' ha.pe hb.pe hc.pe hm) λ_ _ _ h=>OA h
theorem Uj(ho:OpR X (compareOp op) (rM X.kw g))(ho':OpR X (compareOp op') (rM X.kw g'))(ha:RE X a ma)(hb:RE X b mb)(hc:RE X c mc)(hm:lastMarks [op,op'] [b,c]=false:=by with_unfolding_all rfl):
  RT X (.Compare a [op,op'] [b,c] pos) (AR (Er g g' ma mb mc)):=RT.wk (VA ho ho' ha.pe hb.pe hc.pe hm) λσ H Q h=>OA (Q:=λx H'=>∃k,x=.bl k/\Q k H') (M0 h)
theorem Cq(hm:X.mg x=none)(hv:bootBuiltins x=some (.type n))(hg:Gl X x:=by rfl)(hn:x ≠ "__name__" := by decide)(hdb:(x==("__debug__" : Str))=false:=by decide):RE X (.Name x pos) (mC (.ty n)):=
 SX (t:=λ_ _ _=>True) (Xh (v:=.ty n) hg hm hv rfl hn hdb) λ_ _ _=>by unfold Is;rfl
noncomputable def Dz(d:D):M Unit:=bnd (Bs d) λ_=>ret ()
noncomputable def BB(g:D->List D->M D)(mo:Sl->M D)(ma:Sl->M (List D)):Sl->M D:=λτ=>bnd (mo τ) λx=>bnd (Dz x) λ_=>bnd (ma τ) λxs=>g x xs
noncomputable def rMM(K:KW)(g:D->List D->M D):V->List V->Hp->VK->Prop:=λx xs H Q=>∃ι μ a as d μ',RelH K ι μ H/\Is K ι μ.length H a x/\IsL K ι μ.length H as xs/\g a as μ=some (d,μ') /\
 Aft K ι μ H μ' λι' H'=>∀v,Is K ι' μ'.length H' d v->Q v H'
theorem Jr(R:RelH K ι μ H)(i:Is K ι μ.length H d v)(e:Dz d μ=some (u,μ')):μ'=μ/\tyV K "list" v H:=by
 obtain⟨ds,μ1,e1,ee1⟩:=AI e;cases ee1;obtain⟨hm,p,vs,rfl,h1,h2⟩:=D6 R i e1;exact⟨hm,.inl ⟨rfl,vs,h1⟩⟩
theorem MM(e:Dz d μ=some (u,μ')):μ'=μ:=by
 obtain⟨ds,μ1,e1,ee1⟩:=AI e;cases ee1;cases d with
 |lst _=>cases e1;rfl
 |scr _=>cases e1;rfl
 |ref n=>
  have e1:(match μ[n]? with|some (.lst ds)=>some (ds,μ)|_=>none)=some (ds,μ'):=e1;split at e1
  ·cases e1;rfl
  ·cases e1
 |_=>cases e1
theorem UW(h:tE K (BB g mo ma) σ H Q):tBM K "list" (rMM K g) (tE K mo) (tL K ma) σ H Q:=by
 obtain⟨ι,μ,τ,d,μ',R,S,e,q⟩:=h;obtain⟨x,μ1,e1,ee1⟩:=AI e;obtain⟨u,μ2,e2,ee2⟩:=AI ee1;obtain⟨as,μ3,e3,ee3⟩:=AI ee2;have hm:=MM e2;subst hm;refine⟨ι,μ,τ,x,_,R,S,e1,λι1 H1 E1 R1 v1 i1=>⟨(Jr R1 i1 e2).2,?_⟩⟩;refine⟨ι1,_,τ,as,μ3,R1,S.ext E1,e3,λι2 H2 E2 R2 vs i2=>?_⟩;exact⟨ι2,μ3,x,as,d,μ',R2,i1.ext E2,i2,ee3,λι3 H3 E3 R3=>q ι3 H3 ((E1.trans E2).trans E3) R3⟩
theorem BS{name:Str}{id:String}(slot:Slot "list" name id)(hty:typeOf (.builtin id)=pure (.type "method_descriptor"))(hm:MtR X id (rMM X.kw g))(ho:RE X o mo)(ha:RA X (e::es) ma)
  (hbase:attributeBase o name X.env (eval o X.env)=eval o X.env:=by rfl)
  (hfew:((backTo cpos (starEach (e::es) X.env)).all (λx=>!x.1)&&(backToKw cpos (keywordEach [] X.env)).all (λx=>x.1.isSome)
   && decide ((e::es).length+([]:List Keyword).length+(if ([]:List Keyword).isEmpty then 0 else 1)<30))=true:=by rfl)
  (hline:(apos.endLine==cpos.line)=true:=by rfl) (hs:starEach (e::es) X.env=(false,eval e X.env)::starEach es X.env:=by exact BH rfl) (hplain:(backTo cpos (starEach es X.env)).any (·.1)=false:=by exact BY rfl) :
  RE X (.Call (.Attribute o name apos) (e::es) [] cpos) (BB g mo ma):=RE.wk (Yk PySem.F.plainAttrs_list slot hty hm ho.pe ha.pe hbase hfew hline hs hplain) λ_ _ _ h=>UW h
noncomputable def FI(n:Nat)(k:List D->Option (D×List D)):M D:=λμ=>match μ[n]? with
 |some (.lst ds)=>(k ds).map λr=>(r.1,μ.set n (.lst r.2))
 |_=>none
theorem FV(e:FI n k μ=some (d,μ')):∃ds es,μ[n]?=some (.lst ds)/\k ds=some (d,es)/\μ'=μ.set n (.lst es):=by
 unfold FI at e;split at e
 ·rename_i ds hq;cases hk:k ds with
  |none=>rw[hk] at e;cases e
  |some r=>rw[hk] at e;cases e;exact⟨ds,r.2,hq,hk,rfl⟩
 ·cases e
theorem IQ{K:KW}{ι:Nat->Addr}{μ:Mh}{H:Hp}{n:Nat}{d:D}{es:List D}{ws:List V}{v:V}{Q:VK}{ds:List D}(R:RelH K ι μ H)(hn:μ[n]?=some (.lst ds))(iw:IsL K ι μ.length H es ws)(iv:Is K ι μ.length H d v)
  (q:Aft K ι μ H (μ.set n (.lst es)) λι' H'=>∀v,Is K ι' (μ.set n (.lst es)).length H' d v->Q v H'):Q v (upd H (ι n) (.lst ws)):=by
 have hlt:n<μ.length:=(AAT.mp hn).1;obtain⟨E1,R1⟩:=R.changed (m:=.lst es) (o:=.lst ws) hlt ⟨ws,rfl,iw⟩;exact q ι _ E1 R1 v (iv.ext E1)
noncomputable def FQ:D->List D->M D
 | .ref n,[d]=>FI n λds=>if ds.length<sizeLine then some (.non,ds++[d]) else none
 |_,_=>BO
theorem Cm:MtR X "list.append" (rMM X.kw FQ):=λpins s σ H x xs v us Q I rx rs h=>by
 obtain⟨ι,μ,a,as,d,μ',R,ia,ib,e,q⟩:=h;unfold FQ at e;split at e
 ·rename_i n y;obtain⟨ds,es,h1,h2,rfl⟩:=FV e;split at h2
  ·rename_i hl;cases h2;obtain⟨w,rfl,iw⟩:=Es ib;unfold Is at ia;obtain⟨_,rfl⟩:=ia;obtain⟨u,g1,vs,rfl,g2⟩:=R.obj n _ h1;exact Sm pins s σ H _ _ v us Q I rx rs ⟨_,vs,w,rfl,rfl,g1,by rw[g2.length];exact hl,IQ R h1 (g2.append (.one iw)) ofN q⟩
  ·cases h2
 ·cases e
noncomputable def Lg:D->List D->M D
 | .ref n,[.lst zs]=>FI n λds=>if ds.length+zs.length<=sizeLine then some (.non,ds++zs) else none
 |_,_=>BO
theorem Gf:MtR X "list.extend" (rMM X.kw Lg):=λpins s σ H x xs v us Q I rx rs h=>by
 obtain⟨ι,μ,a,as,d,μ',R,ia,ib,e,q⟩:=h;unfold Lg at e;split at e
 ·rename_i n zs;obtain⟨ds,es,h1,h2,rfl⟩:=FV e;split at h2
  ·rename_i hl;cases h2;obtain⟨w,rfl,iw⟩:=Es ib;unfold Is at ia iw;obtain⟨_,rfl⟩:=ia;obtain⟨p,ws,rfl,k1,_,k2⟩:=iw;obtain⟨u,g1,vs,rfl,g2⟩:=R.obj n _ h1;exact Sj pins s σ H _ _ v us Q I rx rs ⟨_,p,vs,ws,rfl,rfl,g1,k1,by rw[g2.length,k2.length];exact hl,IQ R h1 (g2.append k2) ofN q⟩
  ·cases h2
 ·cases e
noncomputable def Oh:D->List D->M D
 | .ref n,[.int i,d]=>FI n λds=>if 0<=i/\i<2 ^ 62/\ds.length<sizeLine then some (.non,ds.take i.toNat++d::ds.drop i.toNat) else none
 |_,_=>BO
theorem QJ(xs:List Value)(k:Nat)(y:Value)(hk:k<=xs.length):(xs.toArray.extract 0 k).push y++xs.toArray.extract k=(xs.take k++y::xs.drop k).toArray:=by
 apply Array.toList_inj.mp;simp[Array.toList_extract,List.extract_eq_take_drop,AAk];exact List.take_of_length_le (by simp)
theorem ax{i:Int}(h0:0<=i)(h:i<2 ^ 62):Builtin.List.listFitsIndex i=true:=fitsIndex_both (by omega) (by omega)
theorem OU:MtR X "list.insert" (rMM X.kw Oh):=λpins s σ H x xs v us Q I rx rs h=>by
 obtain⟨ι,μ,a,as,d,μ',R,ia,ib,e,q⟩:=h;unfold Oh at e;split at e
 ·rename_i n i y;obtain⟨ds,es,h1,h2,rfl⟩:=FV e;split at h2
  ·rename_i hl;cases h2;obtain⟨w,w',rfl,iw,iw'⟩:=LE ib;cases CC iw;unfold Is at ia;obtain⟨_,rfl⟩:=ia;obtain⟨u,g1,vs,rfl,g2⟩:=R.obj n _ h1;cases rx;obtain⟨u1,u2,rfl,r1,r2⟩:=Vals.two rs;obtain⟨t,rfl⟩:=r1;obtain⟨z,its,nn,r,hl2,e2⟩:=I.lstM g1;refine call_meets PySem.F.slot_list_insert ⟨_,e2,rfl⟩ PySem.F.entry_list_insert (PySem.F.args_list_insert_3 _ _ _) (PySem.AutoSeq1.list_insert_list_int_val_1 _ its.toArray nn i t u2 (by simp[ax hl.1 hl.2.1]) (by rw[List.size_toArray,←hl2];exact z)) ⟨e2,?_⟩;have hk:(if i<0 then (i+((its.toArray.size:Nat):Int)).toNat else min i.toNat its.toArray.size)=min i.toNat its.length:=by rw[if_neg (by omega),List.size_toArray]
   have ht:its.take (min i.toNat its.length)=its.take i.toNat:=by
    rcases Nat.le_total i.toNat its.length with z|z
    ·rw[Nat.min_eq_left z]
    ·rw[Nat.min_eq_right z,List.take_length,List.take_of_length_le z]
   have hd:its.drop (min i.toNat its.length)=its.drop i.toNat:=by
    rcases Nat.le_total i.toNat its.length with z|z
    ·rw[Nat.min_eq_left z]
    ·rw[Nat.min_eq_right z,List.drop_length,List.drop_of_length_le z]
   refine⟨.non,_,I.lset (its':=its.take i.toNat++u2::its.drop i.toNat) (ys:=vs.take i.toNat++w'::vs.drop i.toNat) g1 e2 ?_ ((r.take _).append (.cons r2 (r.drop _))) ?_,rfl,IQ R h1 ((g2.take _).append (.cons iw' (g2.drop _))) ofN q⟩
   ·show (its.toArray.extract 0 _).push u2++its.toArray.extract _=_;rw[hk,QJ _ _ _ (Nat.min_le_right _ _),ht,hd]
   ·have h3:=g2.length;rw[AAG,AAH,List.length_take,List.length_drop];omega
  ·cases h2
 ·cases e
noncomputable def Uf:D->D->D->M Unit
 | .ref n,.int k,d=>λμ=>match μ[n]? with
  |some (.lst ds)=>(ixN ds.length k).map λj=>((),μ.set n (.lst (ds.set j d)))
  |_=>none
 |_,_,_=>BO
noncomputable def WU(mo mi:Sl->M D):D->Sl->M Sl:=λd τ=>bnd (mo τ) λx=>bnd (mi τ) λy=>bnd (Uf x y d) λ_=>ret τ
theorem SS(e:Uf x y d μ=some (u,μ')):∃n k ds j,x=.ref n/\y=.int k/\μ[n]?=some (.lst ds)/\ixN ds.length k=some j/\μ'=μ.set n (.lst (ds.set j d)):=by
 unfold Uf at e;split at e
 ·rename_i n k;split at e
  ·rename_i ds hq;cases hk:ixN ds.length k with
   |none=>rw[hk] at e;cases e
   |some j=>rw[hk] at e;cases e;exact⟨n,k,ds,j,rfl,rfl,hq,hk,rfl⟩
  ·cases e
 ·cases e
theorem Uv(ho:RE X o mo)(hi:RE X i mi)
  (ha:∀v,assign (.Subscript o i pos) X.env v=(do
   let ov ←holding [v] (eval o X.env)
   let iv ←holding [v,ov] (eval i X.env)
   standAt pos
   holding [v,ov,iv] (setItem ov iv v)
   release [v,ov,iv] []):=by intro _;rfl):RG X (.Subscript o i pos) (WU mo mi):=RG.wk (Zn ho.pe hi.pe Ue ha) λv σ H Q h=>by
 obtain⟨ι,μ,τ,d,τ',μ',R,S,i1,e,q⟩:=h;obtain⟨x,μ1,e1,ee1⟩:=AI e;obtain⟨y,μ2,e2,ee2⟩:=AI ee1;obtain⟨u,μ3,e3,ee3⟩:=AI ee2;cases ee3;refine⟨ι,μ,_,x,μ1,R,S,e1,λι1 H1 E1 R1 v1 j1=>⟨ι1,μ1,_,y,μ2,R1,S.ext E1,e2,λι2 H2 E2 R2 v2 j2=>?_⟩⟩;obtain⟨n,k,ds,j,rfl,rfl,g1,g2,rfl⟩:=SS e3;have E12:=E1.trans E2;have j1':=j1.ext E2;unfold Is at j1';obtain⟨hlt,rfl⟩:=j1';cases CC j2;obtain⟨w,k1,vs,rfl,k2⟩:=R2.obj n _ g1;obtain⟨E3,R3⟩:=R2.changed (m:=.lst (ds.set j d)) (o:=.lst (vs.set j v)) hlt ⟨_,rfl,k2.set (i1.ext E12) j⟩;exact⟨_,vs,k,j,rfl,rfl,k1,by rw[k2.length];exact g2,q ι2 _ (E12.trans E3) R3 σ (S.ext (E12.trans E3))⟩
noncomputable def P0:D->Option Key
 | .int i=>some (.inl i)
 | .str x=>some (.inr x)
 |_=>none
noncomputable def Gq:D->M (Nat×List (Key×D))
 | .ref n=>λμ=>match μ[n]? with
  |some (.dK l)=>some ((n,l),μ)
  |_=>none
 |_=>BO
noncomputable def Fq(l:List (Key×D))(k:Key):Option D:=(l.find? λkv=>decide (kv.1=k)).map (·.2)
noncomputable def NA(l:List (Key×D))(k:Key)(d:D):List (Key×D):=
 if (l.any λkv=>decide (kv.1=k))=true then l.map (λkv=>if kv.1=k then (kv.1,d) else kv) else l++[(k,d)]
noncomputable def cm:Sl->M D:=λ_ μ=>some (.ref μ.length,μ++[.dK []])
theorem XH:RE X (.Dict [] [] pos) cm:=RE.wk VP λσ H Q h=>by
 obtain⟨ι,μ,τ,d,μ',R,S,e,q⟩:=h;cases e;intro p hp;obtain⟨ι',E1,R1,e0⟩:=R.grown (m:=.dK []) (o:=.dK []) hp ⟨[],rfl,rfl⟩;exact q ι' _ E1 R1 _ (by unfold Is;exact⟨by simp,by rw[e0]⟩)
section
variable{K:KW}{ι:Nat->Addr}{k:Nat}{H:Hp}
theorem KVs.val:∀{l:List (Key×D)} {r:List (Key×V)} (y:Key),KVs K ι k H l r->(Fq l y=none/\GN r y=none)∨∃d v,Fq l y=some d/\GN r y=some v/\Is K ι k H d v
 |[],_,y,h=>by cases h;exact .inl ⟨rfl,rfl⟩
 |(z,d)::l,_,y,h=>by
  obtain⟨v,r',rfl,h1,h2⟩:=h;by_cases hz:z=y
  ·subst hz;exact .inr ⟨d,v,by simp[Fq],by simp[GN],h1⟩
  ·have:=KVs.val y h2;simpa[Fq,GN,List.find?_cons,hz] using this
theorem KVs.any:∀{l:List (Key×D)} {r:List (Key×V)} (y:Key),KVs K ι k H l r->(l.any λkv=>decide (kv.1=y))=(r.any λkv=>decide (kv.1=y))
 |[],_,y,h=>by cases h;rfl
 |(z,d)::l,_,y,h=>by
  obtain⟨v,r',rfl,h1,h2⟩:=h;rw[List.any_cons,List.any_cons,KVs.any y h2]
theorem KVs.length:∀{l:List (Key×D)} {r:List (Key×V)},KVs K ι k H l r->r.length=l.length
 |[],_,h=>by cases h;rfl
 |(z,d)::l,_,h=>by
  obtain⟨v,r',rfl,h1,h2⟩:=h;rw[AAH,AAH,KVs.length h2]
theorem KVs.app:∀{l:List (Key×D)} {r:List (Key×V)} {y:Key} {d:D} {v:V},KVs K ι k H l r->Is K ι k H d v->KVs K ι k H (l++[(y,d)]) (r++[(y,v)])
 |[],_,y,d,v,h,h1=>by cases h;exact⟨v,[],rfl,h1,rfl⟩
 |(z,e)::l,_,y,d,v,h,h1=>by
  obtain⟨w,r',rfl,h2,h3⟩:=h;exact⟨w,_,rfl,h2,KVs.app h3 h1⟩
theorem KVs.mapPut:∀{l:List (Key×D)} {r:List (Key×V)} {y:Key} {d:D} {v:V},KVs K ι k H l r->Is K ι k H d v->KVs K ι k H (l.map λkv=>if kv.1=y then (kv.1,d) else kv) (r.map λkv=>if kv.1=y then (kv.1,v) else kv)
 |[],_,y,d,v,h,h1=>by cases h;rfl
 |(z,e)::l,_,y,d,v,h,h1=>by
  obtain⟨w,r',rfl,h2,h3⟩:=h;rw[AAW,AAW];by_cases hz:z=y
  ·subst hz;simp only[if_true];exact⟨v,_,rfl,h1,KVs.mapPut h3 h1⟩
  ·simp only[hz,if_false];exact⟨w,_,rfl,h2,KVs.mapPut h3 h1⟩
theorem KVs.put(h:KVs K ι k H l r)(h1:Is K ι k H d v):KVs K ι k H (NA l y d) (IZ r y v):=by
 unfold NA IZ;rw[h.any y];split
 ·exact h.mapPut h1
 ·exact h.app h1
theorem NO(h:Is K ι k H d v)(e:P0 d=some y):v=kV y:=by
 cases d with
 |int i=>cases e;unfold Is at h;exact h
 |str i=>cases e;unfold Is at h;exact h
 |_=>cases e
theorem FG(R:RelH K ι μ H)(i:Is K ι μ.length H d v)(e:Gq d μ=some (r,μ')):μ'=μ/\d=.ref r.1/\μ[r.1]?=some (.dK r.2)/\v=.ref (ι r.1)/\∃kvs,H (ι r.1)=some (.dK kvs)/\KVs K ι μ.length H r.2 kvs:=by
 cases d with
 |ref n=>
  have e:(match μ[n]? with|some (.dK l)=>some ((n,l),μ)|_=>none)=some (r,μ'):=e;split at e
  ·rename_i l hq;cases e;unfold Is at i;obtain⟨u,h1,kvs,rfl,h2⟩:=R.obj n _ hq;exact⟨rfl,rfl,hq,i.2,kvs,h1,h2⟩
  ·cases e
 |_=>cases e
end
noncomputable def WH(d y:D):M D:=bnd (Gq d) λr=>λμ=>(P0 y).map λk=>((Fq r.2 k).getD .non,μ)
noncomputable def NU(d:D):M Unit:=bnd (Gq d) λ_=>ret ()
noncomputable def K8(mo mi:Sl->M D):Sl->M D:=λτ=>bnd (mo τ) λx=>bnd (NU x) λ_=>bnd (mi τ) λy=>WH x y
theorem TK(e:NU d μ=some (u,μ')):μ'=μ/\∃r,Gq d μ=some (r,μ):=by
 obtain⟨r,μ1,e1,ee1⟩:=AI e;cases ee1;cases d with
 |ref n=>
  have e2:(match μ[n]? with|some (.dK l)=>some ((n,l),μ)|_=>none)=some (r,μ'):=e1;split at e2
  ·cases e2;exact⟨rfl,_,e1⟩
  ·cases e2
 |_=>cases e1
theorem U1(hr:Room k X.A)(ho:RE X o mo)(hi:RE X e mi)(m:M1 X o "get" apos e cpos:=by exact⟨rfl,rfl,rfl,rfl⟩):RE X (.Call (.Attribute o "get" apos) [e] [] cpos) (K8 mo mi):=RE.wk (VQ (V3 hr) ho.pe hi.pe m) λσ H Q h=>by
 obtain⟨ι,μ,τ,d,μ',R,S,e,q⟩:=h;obtain⟨x,μ1,e1,ee1⟩:=AI e;obtain⟨u,μ4,e4,ee2⟩:=AI ee1;obtain⟨y,μ2,e2,ee3⟩:=AI ee2;obtain⟨r,μ3,e3,ee4⟩:=AI ee3;obtain⟨hm,r0,e5⟩:=TK e4;subst hm;refine⟨ι,μ,τ,x,_,R,S,e1,λι1 H1 E1 R1 v1 i1=>?_⟩;obtain⟨_,_,_,rfl,kvs0,g0,_⟩:=FG R1 i1 e5;refine⟨_,rfl,.inl ⟨kvs0,.inl g0⟩,ι1,_,τ,y,μ2,R1,S.ext E1,e2,λι2 H2 E2 R2 v2 i2=>?_⟩;obtain⟨hm,hx,g1,hv,kvs,g2,g3⟩:=FG R2 (i1.ext E2) e3;subst hm;cases hk:P0 y with
 |none=>rw[hk] at ee4;cases ee4
 |some ky=>
  rw[hk] at ee4;cases ee4;cases NO i2 hk;have hv':ι1 r0.1=ι2 r.1:=V.ref.inj hv;rw[hv'];refine⟨GN kvs ky,DGet.k g2,?_⟩;rcases g3.val ky with ⟨z1,z2⟩|⟨dd,vv,z1,z2,z3⟩
  ·rw[z2];rw[z1] at q;exact q ι2 H2 (E1.trans E2) R2 _ ofN
  ·rw[z2];rw[z1] at q;exact q ι2 H2 (E1.trans E2) R2 vv z3
noncomputable def TQ(neg:Bool)(y d:D):M D:=bnd (Gq d) λr=>λμ=>(P0 y).map λk=>(.bl (if neg then !(Fq r.2 k).isSome else (Fq r.2 k).isSome),μ)
theorem ZI(h:tE K (mOp (TQ false) mi mo) σ H Q):bi (tE K mi) (tE K mo) σ H Q:=by
 obtain⟨ι,μ,τ,d,μ',R,S,e,q⟩:=h;obtain⟨y,μ1,e1,ee1⟩:=AI e;obtain⟨x,μ2,e2,ee2⟩:=AI ee1;obtain⟨r,μ3,e3,ee3⟩:=AI ee2;refine⟨ι,μ,τ,y,μ1,R,S,e1,λι1 H1 E1 R1 v1 i1=>⟨ι1,μ1,τ,x,μ2,R1,S.ext E1,e2,λι2 H2 E2 R2 v2 i2=>?_⟩⟩;obtain⟨hm,_,g1,rfl,kvs,g2,g3⟩:=FG R2 i2 e3;subst hm;cases hk:P0 y with
 |none=>rw[hk] at ee3;cases ee3
 |some ky=>
  rw[hk] at ee3;cases ee3;cases NO (i1.ext E2) hk;refine⟨_,GN kvs ky,rfl,DGet.k g2,?_⟩;rcases g3.val ky with ⟨z1,z2⟩|⟨dd,vv,z1,z2,z3⟩
  ·rw[z2];rw[z1] at q;exact q ι2 H2 (E1.trans E2) R2 _ (ofB _)
  ·rw[z2];rw[z1] at q;exact q ι2 H2 (E1.trans E2) R2 _ (ofB _)
theorem Za(hr:Room k X.A)(hi:RE X i mi)(ho:RE X o mo)(h1:behindInMarks .In o=false:=by first|exact nobehind _ (by decide) (by decide)|rfl):RE X (.Compare i [.In] [o] pos) (mOp (TQ false) mi mo):=RE.wk (VR (Z0 (V3 hr) hi.pe ho.pe) h1) λ_ _ _ h=>ZI h
noncomputable def OH(mo mi mv:Sl->M D):Sl->M (Fl×Sl):=λτ=>bnd (mv τ) λv=>bnd (mo τ) λx=>bnd (mi τ) λy=>bnd (Gq x) λr=>λμ=>match P0 y with
 |some k=>if r.2.length<sizeLine then some ((.next,τ),μ.set r.1 (.dK (NA r.2 k v))) else none
 |none=>none
theorem W8(hr:Room k X.A)(ho:RE X o mo)(hi:RE X i mi)(hv:RE X value mv)(hs:swapsWith value (some (.Subscript o i pos')) pos.line X.env=pure false:=by rfl):RS X (.Assign [.Subscript o i pos'] value pos) (OH mo mi mv):=RS.wk (XV (V3 hr) ho.pe hi.pe hv.pe hs) λDn σ H h=>by
 obtain⟨ι,μ,τ,f,τ',μ',R,S,e,q⟩:=h;obtain⟨v,μ1,e1,ee1⟩:=AI e;obtain⟨x,μ2,e2,ee2⟩:=AI ee1;obtain⟨y,μ3,e3,ee3⟩:=AI ee2;obtain⟨r,μ4,e4,ee4⟩:=AI ee3;refine⟨ι,μ,τ,v,μ1,R,S,e1,λι1 H1 E1 R1 v1 i1=>⟨ι1,μ1,τ,x,μ2,R1,S.ext E1,e2,λι2 H2 E2 R2 v2 i2=>⟨ι2,μ2,τ,y,μ3,R2,S.ext (E1.trans E2),e3,λι3 H3 E3 R3 v3 i3=>?_⟩⟩⟩;obtain⟨hm,hx,g1,hv2,kvs,g2,g3⟩:=FG R3 (i2.ext E3) e4;subst hm;have E13:=(E1.trans E2).trans E3;cases hk:P0 y with
 |none=>rw[hk] at ee4;cases ee4
 |some ky=>
  rw[hk] at ee4;have ee4:(if r.2.length<sizeLine then some ((Fl.next,τ),List.set μ4 r.1 (MO.dK (NA r.2 ky v))) else none)=some ((f,τ'),μ'):=ee4;split at ee4
  ·rename_i hl;cases ee4;cases NO i3 hk;have hlt:r.1<List.length μ4:=(AAT.mp g1).1;obtain⟨E4,R4⟩:=R3.changed (m:=.dK (NA r.2 ky v)) (o:=.dK (IZ kvs ky v1)) hlt ⟨_,rfl,g3.put (i1.ext (E2.trans E3))⟩;exact⟨_,_,hv2,DPut.k g2 (by rw[g3.length];exact hl),q ι3 _ (E13.trans E4) R4 σ (S.ext (E13.trans E4))⟩
  ·cases ee4
noncomputable def dh:D->M (List D)
 | .str x=>ret (x.cps.toList.map λc=>.str ⟨#[c]⟩)
 |_=>BO
noncomputable def OX(m:Sl->M D):Sl->M (List D):=λτ=>bnd (m τ) dh
theorem X8:ItM K (Its x) (x.cps.toList.map λc=>.str ⟨#[c]⟩) ι μ H:=by
 intro ι' μ' H' E R;have hl:(x.cps.toList.map λc=>D.str ⟨#[c]⟩).length=x.cps.size:=by simp
 rw[hl];refine⟨λj hj=>hj,rfl,λj v H2 d hd y=>?_⟩;obtain⟨e,c,hc,y⟩:=y;subst e;rw[AAV,Array.getElem?_toList,hc] at hd;cases hd;exact⟨R.ext0,R,by unfold Is;exact y⟩
theorem Ur(h:RE X e m):RI X tg e (OX m):=RI.wk (Zm h.pe) λσ H R q=>by
 obtain⟨ι,μ,τ,ds,μ',R0,S,e,q⟩:=q;obtain⟨x,μ1,e1,ee1⟩:=AI e;refine⟨ι,μ,τ,x,μ1,R0,S,e1,λι1 H1 E1 R1 v i1=>?_⟩;cases x with
 |str x=>cases ee1;exact⟨x,B1 i1,q ι1 H1 E1 R1 _ X8⟩
 |_=>cases ee1
noncomputable def DS:Nat->List D->List D
 |_,[]=>[]
 |k,d::ds=>.tup [.int k,d]::DS (k+1) ds
theorem MV:∀(k:Nat) (ds:List D),(DS k ds).length=ds.length
 |_,[]=>rfl
 |k,_::ds=>by unfold DS;simp[MV (k+1) ds]
theorem MW:∀(k:Nat) (ds:List D) (j:Nat),(DS k ds)[j]?=(ds[j]?).map λd=>.tup [.int ((k+j:Nat):Int),d]
 |_,[],j=>by simp[DS]
 |k,d::ds,0=>by simp[DS]
 |k,d::ds,j+1=>by
  unfold DS;rw[List.getElem?_cons_succ,List.getElem?_cons_succ,MW (k+1) ds j];have:k+1+j=k+(j+1):=by omega
  rw[this]
noncomputable def Rm:List D->M (List D)
 |[.lst ds]=>ret ds
 |[.scr ns]=>ret (ns.map D.int)
 |_=>BO
noncomputable def OZ(m:Sl->M (List D)):Sl->M (List D):=λτ=>bnd (m τ) λas=>bnd (Rm as) λds=>ret (DS 0 ds)
theorem LD(st:∀ι' (μ':Mh) H',Ext ι μ.length H ι' μ'.length H'->RelH K ι' μ' H'->Cond K H')(i:IsL K ι μ.length H ds vs):
  ItM K (ItP K vs.length (Gn vs) Cond) (DS 0 ds) ι μ H:=by
 intro ι' μ' H' E R;have h:=st ι' μ' H' E R;rw[MV,←i.length];refine⟨λj hj=>⟨hj,h⟩,⟨rfl,h⟩,λj x H2 d hd y=>?_⟩;obtain⟨T,hT,rfl,rfl⟩:=y;obtain⟨E2,R2⟩:=R.laid (.tup (Gn vs j)) hT;refine⟨E2,R2,?_⟩;rw[MW] at hd;cases q:ds[j]? with
 |none=>rw[q] at hd;cases hd
 |some d0=>
  rw[q] at hd;cases hd;obtain⟨w,ew,iw⟩:=(i.ext E).get q;have e0:vs.getD j V.non=w:=by simp[List.getD,ew]
  have es:Gn vs j=[.int j,w]:=by unfold Gn;rw[e0]
  have key:IsL K ι' (List.length μ') (upd H' T (.tup (Gn vs j))) [.int ((0+j:Nat):Int),d0] [.int j,w]:=.cons (by unfold Is;simp) (.one (iw.ext E2));unfold Is;exact⟨T,_,rfl,SqT.of Bt,(congrArg (IsL K ι' (List.length μ') (upd H' T (.tup (Gn vs j))) [.int ((0+j:Nat):Int),d0]) es).mpr key⟩
theorem OM(hm:X.mg "enumerate" = none)(ha:RA X [a] m)(hg:Gl X "enumerate" := by rfl)(hs:starEach [a] X.env=[(false,eval a X.env)]:=by rfl):RI X (.Tuple es k0 tpos) (.Call (.Name "enumerate" p) [a] [] pos) (OZ m):=
 RI.wk (VJ hg hm ha.pe hs) λσ H R q=>by
  obtain⟨ι,μ,τ,ds,μ',R0,S,e,q⟩:=q;obtain⟨xs,μ1,e1,ee1⟩:=AI e;obtain⟨zs,μ2,e2,ee2⟩:=AI ee1;cases ee2;refine⟨ι,μ,τ,xs,μ1,R0,S,e1,λι1 H1 E1 R1 vs i1=>?_⟩;unfold Rm at e2;split at e2
  ·cases e2;obtain⟨v,rfl,i2⟩:=Es i1;unfold Is at i2;obtain⟨p,ws,rfl,h1,hn,h2⟩:=i2;exact⟨p,ws,rfl,SqL.of h1,q ι1 H1 E1 R1 _ (LD (λι' μ' H' E _=>SqL.of (E.keep p _ h1 hn)) h2)⟩
  ·cases e2;obtain⟨v,rfl,i2⟩:=Es i1;unfold Is at i2;obtain⟨p,rfl,h1⟩:=i2;exact⟨p,_,rfl,h1.sq,q ι1 H1 E1 R1 _ (LD (λι' μ' H' E _=>(J4 E h1).sq) (IsL.ofInts _))⟩
  ·cases e2
noncomputable def Hz:List D->Option (List Bool)
 |[]=>some []
 | .bl b::ds=>(Hz ds).map (b::·)
 |_=>none
theorem Nh:∀{ds:List D} {vs:List V} {bs:List Bool},IsL K ι k H ds vs->Hz ds=some bs->vs=bs.map V.bl
 |[],_,_,h,e=>by cases e;unfold IsL at h;exact h
 | .bl b::ds,_,_,h,e=>by
  unfold IsL at h;obtain⟨v,vs',rfl,h1,h2⟩:=h;unfold Hz at e;cases q:Hz ds with
  |none=>rw[q] at e;cases e
  |some bs=>
   rw[q] at e;cases e;unfold Is at h1;rw[h1,Nh h2 q];rfl
 | .non::_,_,_,_,e=>by cases e
 | .int _::_,_,_,_,e=>by cases e
 | .str _::_,_,_,_,e=>by cases e
 | .ty _::_,_,_,_,e=>by cases e
 | .scr _::_,_,_,_,e=>by cases e
 | .tup _::_,_,_,_,e=>by cases e
 | .lst _::_,_,_,_,e=>by cases e
 | .ref _::_,_,_,_,e=>by cases e
noncomputable def O7:List D->M D
 |[.lst ds]=>λμ=>(Hz ds).map λbs=>(.bl (bs.all id),μ)
 |_=>BO
noncomputable def WX:List D->M D
 |[.lst ds]=>λμ=>(Hz ds).map λbs=>(.bl (bs.any id),μ)
 |_=>BO
theorem WQ(hc:X.calm=true):Cd X (.builtin "all") (rMA X.kw O7):=λpins s σ H xs us Q I r h=>by
 obtain⟨ι,μ,as,d,μ',R,ia,e,q⟩:=h;refine Tb hc pins s σ H xs us Q I r ?_;unfold O7 at e;split at e
 ·rename_i ds;cases hb:Hz ds with
  |none=>rw[hb] at e;cases e
  |some bs=>
   rw[hb] at e;cases e;obtain⟨v,rfl,i1⟩:=Es ia;unfold Is at i1;obtain⟨p,vs,rfl,h1,_,h2⟩:=i1;exact⟨p,bs,rfl,SqL.of (by rw[←Nh h2 hb];exact h1),q ι H R.ext0 R _ (ofB _)⟩
 ·cases e
theorem df(hc:X.calm=true):Cd X (.builtin "any") (rMA X.kw WX):=λpins s σ H xs us Q I r h=>by
 obtain⟨ι,μ,as,d,μ',R,ia,e,q⟩:=h;refine Ta hc pins s σ H xs us Q I r ?_;unfold WX at e;split at e
 ·rename_i ds;cases hb:Hz ds with
  |none=>rw[hb] at e;cases e
  |some bs=>
   rw[hb] at e;cases e;obtain⟨v,rfl,i1⟩:=Es ia;unfold Is at i1;obtain⟨p,vs,rfl,h1,_,h2⟩:=i1;exact⟨p,bs,rfl,SqL.of (by rw[←Nh h2 hb];exact h1),q ι H R.ext0 R _ (ofB _)⟩
 ·cases e
end
theorem Au:bootBuiltins "len" = some (.builtin "len"):=by decide +kernel
theorem Ay:bootBuiltins "isinstance" = some (.builtin "isinstance"):=by decide +kernel
theorem WS:bootBuiltins "max" = some (.builtin "max"):=by decide +kernel
theorem O0:bootBuiltins "min" = some (.builtin "min"):=by decide +kernel
theorem LR:bootBuiltins "all" = some (.builtin "all"):=by decide +kernel
theorem WT:bootBuiltins "any" = some (.builtin "any"):=by decide +kernel
theorem Fg:bootBuiltins "int" = some (.type "int"):=by decide +kernel
theorem B6:bootBuiltins "str" = some (.type "str"):=by decide +kernel
theorem MZ:bootBuiltins "bool" = some (.type "bool"):=by decide +kernel
theorem Br:bootBuiltins "tuple" = some (.type "tuple"):=by decide +kernel
theorem WR:bootBuiltins "set" = some (.type "set"):=by decide +kernel
structure Fn(P:Program)(w:World)(K:PySem.W.Frag)(mg:Str->Option Value)(base:Heap)(x:Str)(ps:List Str)(k:Nat)(φ:List D->M D):Prop where
 len:∀ds μ r,φ ds μ=some r->ds.length=ps.length
 ex:∃f fd,FnOk P w K mg base CX0 k f fd ps (spM ⟨K,w⟩ ps.length φ)/\mg x=some (.ref f)/\PySem.W.keepIn K (.ref f)=true/\Binds K fd ps []
def Glo(K:PySem.W.Frag)(mg:Str->Option Value)(x:Str)(d:D):Prop:=∃u v,mg x=some u/\RelV v u/\∀w ι k H,Is ⟨K,w⟩ ι k H d v
section
variable{X:Cx}{e:Expr}{es:List Expr}{pos p:Pos}
theorem AS(F:Fn X.prog X.w X.kw X.mg X.base x ps k φ)(hr:Room j X.A)(ha:RA X (e::es) m)(hkj:k<=j:=by decide)(hg:Gl X x:=by rfl)(hdb:(x==("__debug__" : Str))=false:=by decide)
  (he:starEach (e::es) X.env=(false,eval e X.env)::starEach es X.env:=by exact BH rfl) (hpl:(backTo pos (starEach es X.env)).any (·.1)=false:=by exact BY rfl):RE X (.Call (.Name x p) (e::es) [] pos) (AF φ m):=by
 obtain⟨len,f,fd,F,hm,hk,hb⟩:=F;exact XI F (hr.mono hkj) hm hk hb len ha hg hdb he hpl
theorem C1(h:Glo X.kw X.mg x d)(hg:Gl X x:=by rfl)(hdb:(x==("__debug__" : Str))=false:=by decide):RE X (.Name x pos) (mC d):=by
 obtain⟨u,v,hm,r,hd⟩:=h;exact XG hm r (hd _) hg hdb
end
theorem aw(F:Fun K x qual st f fd)(S:Ac N ps (AN st))(hm:mg x=some (.ref f))(hb:Binds K fd ps [])
  (body:∀(cdv:Value) (A:Around) (outer:List Env) (s:Shared) (H:Hp) (E:XK),Room k (A.deeper (PyProof.Rows.envOfC qual (AN st) s.heap.objs.size f cdv))->RSs (Ip CX0 P w K mg base N qual (AN st) f cdv A outer s H E).nox (CU st) mb)
  (len:∀ds μ r,φ ds μ=some r->ds.length=ps.length)
  (run:∀ds μ d μ',φ ds μ=some (d,μ')->∃fl τ2 μ2,mb (BQ N.length ds) μ=some ((fl,τ2),μ2)/\(fl=.next∨∃d,fl=.rt d)/\Gr μ μ2 μ' (HE fl) d):Fn P w K mg base x ps (k+1) φ:=
 ⟨len,f,fd,MR F S rfl body run,hm,F.kp,hb⟩
theorem Hb(h:Cl μ.length d):Gr μ (μ++g) μ d d:=⟨⟨g,rfl⟩,AAE _,λ_ _ e=>.inl e,.inl ⟨rfl,h⟩⟩
section
variable{X:Cx}{e i:Expr}{es:List Expr}{pos p:Pos}
structure Tf(w:World)(K:PySem.W.Frag)(mg:Str->Option Value)(x:Str)(t:Str->Option D):Prop where
 ex:∃ad,mg x=some (.ref ad)/\∀y:Str,∃r,KGet w.params K ad (.str y) r/\((t y=none/\r=none)∨∃d v,t y=some d/\r=some v/\∀ι k H,Is ⟨K,w⟩ ι k H d v)
noncomputable def Re(t:Str->Option D):D->M D
 | .str y=>λμ=>(t y).map λd=>(d,μ)
 |_=>BO
noncomputable def X4(t:Str->Option D):D->M D
 | .str y=>λμ=>some (.bl (t y).isSome,μ)
 |_=>BO
theorem Qx(k:Tf X.w X.kw X.mg x t)(hi:RE X i mi)(hg:Gl X x:=by rfl)(hdb:(x==("__debug__" : Str))=false:=by decide)(hs:bM i:=by exact λ_ _=>rfl):RE X (.Subscript (.Name x p) i pos) (mUn (Re t) mi):=by
 obtain⟨ad,hm,kk⟩:=k;refine RE.wk (Xe (J5 (v:=.ref ad) hg hm rfl hdb) hi.pe hs) λσ H Q h=>?_;obtain⟨ι,μ,τ,d,μ',R,S,e,q⟩:=h;obtain⟨y,μ1,e1,e2⟩:=AI e;refine⟨ι,μ,τ,y,μ1,R,S,e1,λι1 H1 E1 R1 v1 i1=>?_⟩;cases y with
 |str y=>
  cases B1 i1;obtain⟨r,g,z⟩:=kk y;rcases z with ⟨z1,_⟩|⟨d0,v0,z1,rfl,z3⟩
  ·have e3:(t y).map (λd=>(d,μ1))=some (d,μ'):=e2;rw[z1] at e3;cases e3
  ·have e3:(t y).map (λd=>(d,μ1))=some (d,μ'):=e2;rw[z1] at e3;cases e3;exact⟨ad,v0,rfl,g,q ι1 H1 E1 R1 v0 (z3 _ _ _)⟩
 |_=>cases e2
theorem ZH{K:KW}{w:World}{t:Str->Option D}{mi:Sl->M D}(kk:∀y:Str,∃r,KGet w.params K ad (.str y) r/\((t y=none/\r=none)∨∃d v,t y=some d/\r=some v/\∀ι k H,Is K ι k H d v))
  (h:tE K (mUn (X4 t) mi) σ H Q):bc w.params K (tE K mi) (tC (.ref ad)) σ H Q:=by
 obtain⟨ι,μ,τ,d,μ',R,S,e,q⟩:=h;obtain⟨y,μ1,e1,e2⟩:=AI e;refine⟨ι,μ,τ,y,μ1,R,S,e1,λι1 H1 E1 R1 v1 i1=>?_⟩;cases y with
 |str y=>
  cases B1 i1;obtain⟨r,g,z⟩:=kk y;cases e2;rcases z with ⟨z1,rfl⟩|⟨d0,v0,z1,rfl,z3⟩
  ·exact⟨ad,none,rfl,g,by rw[z1] at q;exact q ι1 H1 E1 R1 _ (ofB _)⟩
  ·exact⟨ad,some v0,rfl,g,by rw[z1] at q;exact q ι1 H1 E1 R1 _ (ofB _)⟩
 |_=>cases e2
theorem ZX(k:Tf X.w X.kw X.mg x t)(hi:RE X i mi)(hg:Gl X x:=by rfl)(hdb:(x==("__debug__" : Str))=false:=by decide)(h1:behindInMarks .In (.Name x p)=false:=by first|exact nobehind _ (by decide) (by decide)|rfl):RE X (.Compare i [.In] [.Name x p] pos) (mUn (X4 t) mi):=by
 obtain⟨ad,hm,kk⟩:=k;exact RE.wk (VR (Zz hi.pe (J5 (v:=.ref ad) hg hm rfl hdb)) h1) λσ H Q h=>ZH kk h
noncomputable def eU:D->M D
 | .str x=>λμ=>if x.length<=sizeLine then some (.str x,μ) else none
 |_=>BO
noncomputable def Xy(m:Sl->M D):Sl->M D:=mUn eU m
theorem ZZ(h:RE X e m):RE X (.FormattedValue e (-1) none pos) (Xy m):=RE.wk (Zv h.pe) λσ H Q h=>by
 obtain⟨ι,μ,τ,d,μ',R,S,e,q⟩:=h;obtain⟨y,μ1,e1,e2⟩:=AI e;refine⟨ι,μ,τ,y,μ1,R,S,e1,λι1 H1 E1 R1 v1 i1=>?_⟩;cases y with
 |str y=>
  have e3:(if y.length<=sizeLine then some (D.str y,μ1) else none)=some (d,μ'):=e2;split at e3
  ·rename_i hl;cases e3;exact .inl ⟨y,B1 i1,hl,q ι1 H1 E1 R1 _ (ofS _)⟩
  ·cases e3
 |_=>cases e2
noncomputable def JR:List (Sl->M D)->Str->Sl->M D
 |[],out=>λ_=>bnd (lim out.length) λ_=>ret (.str out)
 |m::r,out=>λτ=>bnd (m τ) λd=>match d with
  | .str y=>bnd (lim (out++y).length) λ_=>JR r (out++y) τ
  |_=>BO
noncomputable def RN(ms:List (Sl->M D)):Sl->M D:=JR ms Str.empty
structure RJ(X:Cx)(es:List Expr)(ms:List (Sl->M D)):Prop where
 pe:PJ X es (ms.map (tE X.kw))
theorem ZT:RJ X [] []:=⟨Zk⟩
theorem Qt(h:RE X e m)(hr:RJ X es ms):RJ X (e::es) (m::ms):=⟨XY h.pe hr.pe⟩
theorem Qi:∀{ms:List (Sl->M D)} {out:Str} {σ:St} {H:Hp} {Q:VK},tE K (JR ms out) σ H Q->Qf (ms.map (tE K)) out σ H Q
 |[],out,σ,H,Q,h=>by
  obtain⟨ι,μ,τ,d,μ',R,S,e,q⟩:=h;obtain⟨_,μ1,e1,e2⟩:=AI e;obtain⟨hl,hm⟩:=CG e1;subst hm;cases e2;exact⟨hl,q ι H R.ext0 R _ (ofS _)⟩
 |m::ms,out,σ,H,Q,h=>by
  obtain⟨ι,μ,τ,d,μ',R,S,e,q⟩:=h;obtain⟨y,μ1,e1,e2⟩:=AI e;refine⟨ι,μ,τ,y,μ1,R,S,e1,λι1 H1 E1 R1 v1 i1=>?_⟩;cases y with
  |str y=>
   obtain⟨_,μ2,e3,e4⟩:=AI e2;obtain⟨hl,hm⟩:=CG e3;subst hm;exact⟨y,B1 i1,hl,Qi ⟨ι1,_,τ,d,μ',R1,S.ext E1,e4,λι2 H2 E2 R2=>q ι2 H2 (E1.trans E2) R2⟩⟩
  |_=>cases e2
theorem SW(h:RJ X (e::e2::es) (m::m2::ms)):RE X (.JoinedStr (e::e2::es) pos) (RN (m::m2::ms)):=RE.wk (Se h.pe) λσ H Q h=>Qi h
end
end Mi
namespace L2
open PySem PySem.Spec PyProof.Rows Sem
section
variable{prog:Program}{w:World}{A:Around}{E:Value->Shared->Prop}{s:Shared}
theorem DK[Decidable c](h:¬c)(hb:wpAny M A b Q E s):wpAny M A (if c then a else b) Q E s:=by
 rw[if_neg h];exact hb
theorem N5(hh:A.handled=none)(hit:s.heap.IsTupleIter it t i)(ht:s.heap.IsTuple t items)
  (more:∀x h',items[i]?=some x->h'.IsTupleIter it t (i+1)->Heap.SameBut it s.heap h'->Q x { s with heap:=h' })
  (over:items[i]?=none->∀h' e,Heap.ExtBut it s.heap h'->(∃o,h'.get? e=some o/\o.cls=.type "StopIteration")->E (.ref e) { s with heap:=h' }) :
  wpAny (model prog w) A (Builtin.SmallTypes.nextOf (.ref it)) Q E s:=by
 have ty:=hit.typeIs;obtain⟨o,at_it,hc,hd⟩:=hit;obtain⟨ot,at_t,_,n,hdt⟩:=ht;have put:∀(k:Nat) (v:Value),(s.heap.update it (Obj.mapFields (λfs=>fs.set! k v))).get? it=some (Obj.mapFields (λfs=>fs.set! k v) o):=λk v=>Heap.get?_update_self _ at_it (Obj.isFreed_of_fields (Obj.data_mapFields hd _));unfold Builtin.SmallTypes.nextOf;refine AAA (wpAny_callSpecial?_slot ty F.slot_tuple_iterator_next (AAb F.slot_tuple_iterator_next ty F.entry_tuple_iterator_next ?_ (F.args_tuple_iterator_next_1 _)));have notNone:¬(Value.ref t==Value.none)=true:=AAf;refine AAA (m:=field (.ref it) 0) (AAs at_it hd (x:=.ref t) rfl ?_);refine DK notNone ?_;refine AAA (m:=field (.ref it) 1) (AAs at_it hd (x:=.int i 0) rfl (AAA (m:=seqItems? (.ref t)) (AAt at_t hdt ?_)));have ei:((i:Int)).toNat=i:=Int.toNat_natCast i;cases hx:items[i]? with
 |some x=>
  dsimp only;rw[ei,hx];refine AAA (wpAny_setField at_it hd (by simp) (AAB ⟨x,rfl,AAB (more x _ hx ⟨_,put _ _,?_,?_⟩ (Heap.SameBut.update ..))⟩))
  ·exact(Obj.cls_mapFields ..).trans hc
  ·rw[Obj.data_mapFields hd];rfl
 |none=>
  dsimp only;rw[ei,hx];refine AAA (wpAny_rule (AAA (wpAny_setField at_it hd (by simp) ?_)));have first:firstArgMember (.type "StopIteration") []=pure Value.none:=by first|rfl|(unfold firstArgMember;rfl)
  unfold Builtin.SmallTypes.stopIteration newExc newTuple;refine AAA (AAA (AAp (AAA (wpAny_of_eq first (AAp (wpAny_raiseNew_none hh ?_) (by size_fits)))) (by size_fits)));exact over hx _ _ (((Heap.SameBut.update ..).extBut.push _).push _) ⟨_,AAD _ rfl,rfl⟩
theorem G7(hh:A.handled=none)(it t:Addr)(hne:t≠it)(items:Array Value):
  Draws prog w A it [it,t] items.size (λi v=>items[i]?=some v) (λi h=>h.IsTupleIter it t i/\h.IsTuple t items):=by
 refine⟨λi h st=>?_,λi h h' st k=>⟨?_,?_⟩,λi s Q E hi st q=>?_,λs Q E st q=>?_⟩
 ·obtain⟨⟨o,e,_⟩,_⟩:=st;exact⟨o,e⟩
 ·obtain⟨⟨o,e,r⟩,_⟩:=st;exact⟨o,k it (by simp) o e,r⟩
 ·obtain⟨_,⟨o,e,r⟩⟩:=st;exact⟨o,k t (by simp) o e,r⟩
 ·exact N5 hh st.1 st.2 (λx h' hx st' sb=>q x h' s.toks hx ⟨st',st.2.extBut sb.extBut hne⟩ sb) λno=>absurd no (by simp[hi])
 ·exact N5 hh st.1 st.2 (λx h' hx=>absurd hx (by simp)) λ_ h' e eb so=>q h' e eb so
noncomputable abbrev Io(it:Addr):Obj:={ cls:=.type "enumerate",data:=.fields #[.none,.bool false,.ref it,rawInt 0,.none,.none] }
theorem WD(v:Value)(ob:Obj)(good:Heap->Prop)(hv:∀(prog:Program) (w:World) (A:Around) (E:Value->Shared->Prop) (s:Shared) (Q:Value->Shared->Prop),good s.heap->Q (.ref s.heap.objs.size) { s with heap:=s.heap.push ob }->wpAny (model prog w) A (pyIter v) Q E s):
  Meets (Builtin.«enumerate.__new__» ⟨[.type "enumerate",v],[]⟩) (λ_ R s=>good s.heap/\R (.ok (.ret (.ref (s.heap.push ob).objs.size))) { s with heap:=(s.heap.push ob).push (Io s.heap.objs.size) }):=by
 refine .of_wp λprog w A R s ⟨g,q⟩=>?_;have own:=sub_enumerate;have walk:∀(A:Around) (E:Value->Shared->Prop) (Q:Value->Shared->Prop),Q (.ref s.heap.objs.size) { s with heap:=s.heap.push ob }->wpAny (model prog w) A (pyIter v) Q E s:=λA E Q z=>hv prog w A E s Q g z;obtain⟨hp,gs,dr,tk,os⟩:=s
 wp_walk
 refine wpAny_stack_any λst=>AAB ?_;split
 ·rename_i c _ _ _ _ _;cases (c==Value.type "enumerate")<;>(wp_walk using walk;exact⟨_,rfl,q⟩)
 ·wp_walk using walk
  exact⟨_,rfl,q⟩
end
end L2
namespace L2
open PySem PySem.Spec PyProof.Rows
theorem PX{P:Program}{w:World}{K:PySem.W.Frag}(a e it:Addr)(xs:List V)(hei:e≠it)(hea:e≠a)(hai:a≠it):
  Jd P w K (.Tuple es k0 pos) (ItP K xs.length (Gn xs) λK H=>SqT K H a xs) [e,it] e (λi h=>(∃old,IsEnum h e it i old)/\h.IsTupleIter it a i):=by
 refine Ha (ι:=List Value) (fp:=[e,it,a]) (Mid:=λits i T h=>(∃x,IsEnumOut h e it ((i:Int)+1) x T)/\(h.IsTupleIter it a (i+1)/\h.IsTuple a its.toArray)/\T≠e/\T≠it) (good:=λits=>Vals xs its) (Pt:=λits i vals=>∃t x,its.toArray[i]?=some x/\vals=#[.int i t,x]) (Sw:=λits i h=>(∃old,IsEnum h e it i old)/\h.IsTupleIter it a i/\h.IsTuple a its.toArray)
  (λA hA its r=>?walk) AAP (λits i vals r h=>LK r h) (λi=>(by show 2<=sizeLine;decide)) (λi h st=>?obj) (λi h h' st k=>?keep) (λX pins σ H s i hP hw hK I hc st=>?into) (λz i h st=>⟨st.1,st.2.1⟩) (λA i s Q E st h=>?self)
 case walk=>
  have hl:xs.length=its.toArray.size:=by rw[List.size_toArray];exact r.length
  have D:=G7 (prog:=P) (w:=w) (A:=A.in1) hA it a hai its.toArray;rw[hl];exact WalksT.enumerateD D e hei (by simp[hei,hea]) (by simp)
 case obj=>
  obtain⟨o,ho,_,hd⟩:=st.2;exact WE st.1 ho ⟨_,hd⟩
 case keep=>
  obtain⟨⟨old,q⟩,o,ho,r⟩:=st;exact⟨⟨old,k e (by simp) _ q⟩,o,k it (by simp) o ho,r⟩
 case into=>
  subst hK;obtain⟨its,r,p,_⟩:=I.tuple hc;exact⟨its,r,st.1,st.2,p⟩
 case self=>exact Rq (f:=λi h=>h.IsTupleIter it a i) A i s Q E st h
section
variable{X:Cx}{es:List Expr}{k0:Nat}{tpos:Pos}
noncomputable def ar(K:PySem.W.Frag)(ta:TA):TI:=λσ H R=>ta σ H λvs H1=>∃a xs,vs=[.ref a]/\SqT K H1 a xs/\R (ItP K xs.length (Gn xs) λK H=>SqT K H a xs) H1
theorem VI(hg:Gl X "enumerate")(hm:X.mg "enumerate" = none)(ha:PA X [a] ta)(hs:starEach [a] X.env=[(false,eval a X.env)]:=by rfl):PI X (.Tuple es k0 tpos) (.Call (.Name "enumerate" p) [a] [] pos) (ar X.kw ta):=by
 intro pins s σ H R I h;refine Call_ (F4 I hg hm MY (PyProof.Rows.callWith_type1 (thn (ha pos pins s σ H _ I h) λus s1 ⟨vs,H1,I1,r1,q1⟩=>?_) hs rfl));obtain⟨l,xs,ev,hq,q⟩:=q1;subst ev;obtain⟨u,eu,ru⟩:=EQ r1;subst eu;cases ru;obtain⟨its,rv,pl,hz⟩:=I1.tuple hq;have lt:l<s1.heap.objs.size:=by obtain⟨o,e,_⟩:=pl;exact Heap.lt_size e
 have new:=WD (.ref l) { cls:=.type "tuple_iterator",data:=.fields #[.ref l,.int 0 0] } (λh=>h.IsTuple l its.toArray) (λ_ _ _ _ _ _ g z=>wpAny_pyIter_tuple g z);refine callType_new F.called_enumerate (by decide) (F.typeCall_enumerate_1 _) (F.newCall_enumerate_1 _) (λobj=>F.args_object_init_2 obj _) F.entry_enumerate_new new ⟨pl,?_⟩;generalize hG:s1.heap.push { cls:=.type "tuple_iterator",data:=.fields #[.ref l,.int 0 0] }=G;have hsz:G.objs.size=s1.heap.objs.size+1:=by rw[←hG];exact Heap.size_push ..
 have at_e:(G.push (Io s1.heap.objs.size)).get? (s1.heap.objs.size+1)=some (Io s1.heap.objs.size):=by rw[←hsz];exact AAD _ rfl
 have he:IsEnum (G.push (Io s1.heap.objs.size)) (s1.heap.objs.size+1) s1.heap.objs.size 0 .none:=at_e;have at_i:(G.push (Io s1.heap.objs.size)).IsTupleIter s1.heap.objs.size l 0:=⟨_,AAC _ (hG ▸ AAD _ rfl),rfl,rfl⟩;show _/\_;rw[hsz];refine⟨⟨_,at_e,rfl⟩,wpAny_pyIter_enum he ?_⟩;refine⟨s1.heap.objs.size+1,[s1.heap.objs.size+1,s1.heap.objs.size],λi h=>(∃old,IsEnum h (s1.heap.objs.size+1) s1.heap.objs.size i old)/\h.IsTupleIter s1.heap.objs.size l i,_,H1,rfl,I1.kept (t':=s1.toks) λb o x=>AAC _ (hG ▸ AAC _ x),?_,⟨⟨_,he⟩,at_i⟩,UP I1,q⟩;exact PX l _ _ xs (Nat.succ_ne_self _) (Nat.ne_of_gt (AAg lt)) (AAc lt)
end
end L2
namespace Mi
open PySem L2
section
variable{X:Cx}{a:Expr}{es:List Expr}{pos:Pos}
noncomputable def UR:List D->M (List D)
 |[.tup ds]=>ret ds
 |_=>BO
noncomputable def Vh(m:Sl->M (List D)):Sl->M (List D):=λτ=>bnd (m τ) λas=>bnd (UR as) λds=>ret (DS 0 ds)
theorem Us(hm:X.mg "enumerate" = none)(ha:RA X [a] m)(hg:Gl X "enumerate" := by rfl)(hs:starEach [a] X.env=[(false,eval a X.env)]:=by exact BH rfl):RI X (.Tuple es k0 tpos) (.Call (.Name "enumerate" p) [a] [] pos) (Vh m):=
 RI.wk (VI hg hm ha.pe hs) λσ H R q=>by
  obtain⟨ι,μ,τ,ds,μ',R0,S,e,q⟩:=q;obtain⟨xs,μ1,e1,e2⟩:=AI e;obtain⟨zs,μ2,e3,e4⟩:=AI e2;cases e4;refine⟨ι,μ,τ,xs,μ1,R0,S,e1,λι1 H1 E1 R1 vs i1=>?_⟩;unfold UR at e3;split at e3
  ·cases e3;obtain⟨v,rfl,i2⟩:=Es i1;unfold Is at i2;obtain⟨p,ws,rfl,h1,h2⟩:=i2;exact⟨p,ws,rfl,h1,q ι1 H1 E1 R1 _ (LD (λι' μ' H' E _=>G3 E h1) h2)⟩
  ·cases e3
end
end Mi
namespace L2
open PySem PySem.Spec PyProof.Rows Sem
def TwoAt(h:Heap)(T:Addr)(a b:Value):Prop:=∃n,h.get? T=some { cls:=.type "tuple",data:=.seq #[a,b] n }
noncomputable abbrev DJ(TI TO:Addr)(f0:Value):Obj:={ cls:=.type "zip",data:=.fields #[f0,.bool false,.bool false,.ref TI,.ref TO] }
theorem TwoAt.keep(x:TwoAt h T a b)(k:∀o,h.get? T=some o->h'.get? T=some o):TwoAt h' T a b:=by
 obtain⟨n,e⟩:=x;exact⟨n,k _ e⟩
section
variable{prog:Program}{w:World}{A:Around}{E:Value->Shared->Prop}{s:Shared}
theorem Qd(t:TwoAt s.heap T a b)(sh:(#[a,b]:Array Value).setIfInBounds k x=#[c,d])(h:∀h',TwoAt h' T c d->Heap.SameBut T s.heap h'->Q () { s with heap:=h' }):
  wpAny (model prog w) A (updateSeq T λxs=>xs.setIfInBounds k x) Q E s:=by
 obtain⟨n,e⟩:=t;refine wpAny_updateSeq e rfl (h _ ⟨n,?_⟩ (Heap.SameBut.update ..)) (by simp[sizeLine]) (by simp[sizeLine]);rw[Heap.get?_update_self _ e rfl];show some ({ cls:=.type "tuple",data:=.seq ((#[a,b]:Array Value).setIfInBounds k x) (if (((#[a,b]:Array Value).setIfInBounds k x).size==(#[a,b]:Array Value).size)=true then n else n+1) }:Obj)=_;rw[sh];rfl
structure Jc(z TI TO i1 i2:Addr)(f1 f2:List Addr):Prop where
 zTI:z≠TI
 zTO:z≠TO
 io:TI≠TO
 z1:z∉f1
 z2:z∉f2
 o1:TO∉f1
 o2:TO∉f2
 n1:TI≠i1
 n2:TI≠i2
 m1:i1∈f1
 m2:i2∈f2
 x12:i1∉f2
 x21:i2∉f1
theorem Tj{z TI TO i1 i2:Addr}{n k:Nat}{a b:Value}{f1 f2:List Addr}{Q:Value->Shared->Prop}(ap:Jc z TI TO i1 i2 f1 f2)
  (D1:Draws prog w A.in1 i1 f1 n P1 S1) (D2:Draws prog w A.in1 i2 f2 n P2 S2) (hk:k<n)
  (hz:s.heap.get? z=some (DJ TI TO .none)) (hI:TwoAt s.heap TI (.ref i1) (.ref i2)) (hO:TwoAt s.heap TO a b) (s1:S1 k s.heap) (s2:S2 k s.heap)
  (q:∀x y T h' tk,P1 k x->P2 k y->s.heap.objs.size<=T->h'.IsTuple T #[x,y]->h'.get? z=some (DJ TI TO (rawInt T))->TwoAt h' TI (.ref i1) (.ref i2)->TwoAt h' TO x y->S1 (k+1) h'->S2 (k+1) h'->(∀c o,c≠z->c≠TO->c≠i1->c≠i2->s.heap.get? c=some o->h'.get? c=some o)->Q (.ref T) { s with heap:=h',toks:=tk }) :
  wpAny (model prog w) A.in1 (Builtin.«zip.__next__» ⟨[.ref z],[]⟩) (λfin s'=>∃v,fin=.done (.ret v)/\Q v s') E s:=by
 obtain⟨nI,eI⟩:=id hI;refine AAA (m:=field (.ref z) 2) (AAs hz rfl (x:=.bool false) rfl ?_);refine AAA (m:=field (.ref z) 3) (AAs hz rfl (x:=.ref TI) rfl ?_);refine AAA (m:=seqItems? (.ref TI)) (AAt eI rfl ?_);refine DK (by simp) ?_;refine AAA (m:=Builtin.SmallTypes.ownedTupleIsFree (.ref z)) ?_;unfold Builtin.SmallTypes.ownedTupleIsFree;refine AAA (m:=field (.ref z) 0) (AAs hz rfl (x:=.none) rfl (AAB ?_));rw[if_pos rfl];refine AAA (wpAny_rule ?_);refine AAA (m:=field (.ref z) 4) (AAs hz rfl (x:=.ref TO) rfl ?_);refine AAA (AAo hz (by simp) λh1 z1 b1=>?_);have k1:∀c o,c≠z->s.heap.get? c=some o->h1.get? c=some o:=λc o hc e=>(b1.2 c hc).trans e;have z1':h1.get? z=some (DJ TI TO .ellipsis):=z1;have hI1:=hI.keep (h':=h1) λo e=>k1 TI o ap.zTI.symm e;have hO1:=hO.keep (h':=h1) λo e=>k1 TO o ap.zTO.symm e;have s11:=D1.frame _ _ h1 s1 λc hc o e=>k1 c o (λy=>ap.z1 (y ▸ hc)) e;have s21:=D2.frame _ _ h1 s2 λc hc o e=>k1 c o (λy=>ap.z2 (y ▸ hc)) e;refine AAA (m:=forIn [(Value.ref i1,0),(Value.ref i2,1)] _ _) ?_;rw[List.forIn_cons];refine AAA (AAA (wpAny_onRaise (AAA (D1.item k { s with heap:=h1 } _ _ hk s11 λx h2 t2 px s12 b2=>AAB ?_))));have k2:∀c o,c≠i1->h1.get? c=some o->h2.get? c=some o:=λc o hc e=>(b2.2 c hc).trans e;have ne1:∀{c:Addr},c∉f1->c≠i1:=λhc y=>hc (y ▸ ap.m1);have ne2:∀{c:Addr},c∉f2->c≠i2:=λhc y=>hc (y ▸ ap.m2);have hO2:=hO1.keep (h':=h2) λo e=>k2 TO o (ne1 ap.o1) e;have hI2:=hI1.keep (h':=h2) λo e=>k2 TI o ap.n1 e;have z2:=k2 z _ (ne1 ap.z1) z1';have s22:=D2.frame _ _ h2 s21 λc hc o e=>k2 c o (λy=>ap.x12 (y ▸ hc)) e;obtain⟨nO,eO⟩:=id hO2;refine AAA (m:=seqItems? (.ref TO)) (AAt eO rfl ?_);refine AAA (Qd (s:={ s with heap:=h2,toks:=t2 }) (c:=x) (d:=b) hO2 rfl λh3 hO3 b3=>AAA (wpAny_letGo (AAB ?_)));have k3:∀c o,c≠TO->h2.get? c=some o->h3.get? c=some o:=λc o hc e=>(b3.2 c hc).trans e;have hI3:=hI2.keep (h':=h3) λo e=>k3 TI o ap.io e;have z3:=k3 z _ ap.zTO z2;have s13:=D1.frame _ _ h3 s12 λc hc o e=>k3 c o (λy=>ap.o1 (y ▸ hc)) e;have s23:=D2.frame _ _ h3 s22 λc hc o e=>k3 c o (λy=>ap.o2 (y ▸ hc)) e;show wpAny _ _ (forIn [(Value.ref i2,1)] _ _) _ _ _;rw[List.forIn_cons];refine AAA (AAA (wpAny_onRaise (AAA (D2.item k { s with heap:=h3,toks:=t2 } _ _ hk s23 λy h4 t4 py s24 b4=>AAB ?_))));have k4:∀c o,c≠i2->h3.get? c=some o->h4.get? c=some o:=λc o hc e=>(b4.2 c hc).trans e;have hO4:=hO3.keep (h':=h4) λo e=>k4 TO o (ne2 ap.o2) e;have hI4:=hI3.keep (h':=h4) λo e=>k4 TI o ap.n2 e;have z4:=k4 z _ (ne2 ap.z2) z3;have s14:=D1.frame _ _ h4 s13 λc hc o e=>k4 c o (λy=>ap.x21 (y ▸ hc)) e;obtain⟨nO4,eO4⟩:=id hO4;refine AAA (m:=seqItems? (.ref TO)) (AAt eO4 rfl ?_);refine AAA (Qd (s:={ s with heap:=h4,toks:=t4 }) (c:=x) (d:=y) hO4 rfl λh5 hO5 b5=>AAA (wpAny_letGo (AAB ?_)));have k5:∀c o,c≠TO->h4.get? c=some o->h5.get? c=some o:=λc o hc e=>(b5.2 c hc).trans e;have hI5:=hI4.keep (h':=h5) λo e=>k5 TI o ap.io e;have z5:=k5 z _ ap.zTO z4;have s15:=D1.frame _ _ h5 s14 λc hc o e=>k5 c o (λy=>ap.o1 (y ▸ hc)) e;have s25:=D2.frame _ _ h5 s24 λc hc o e=>k5 c o (λy=>ap.o2 (y ▸ hc)) e;show wpAny _ _ (forIn [] _ _) _ _ _;rw[List.forIn_nil];refine AAB ?_;obtain⟨nO5,eO5⟩:=id hO5;refine AAA (m:=seqItems? (.ref TO)) (AAt eO5 rfl ?_);refine AAA (wpAny_newTuple ?_ (by simp[sizeLine]));have kp:∀c o,h5.get? c=some o->(h5.push { cls:=.type "tuple",data:=.seq #[x,y] }).get? c=some o:=λc o e=>AAC _ e;unfold Builtin.SmallTypes.ownedTupleHandOut;refine AAA (AAA (AAo (s:={ s with heap:=h5.push { cls:=.type "tuple",data:=.seq #[x,y] },toks:=t4 }) (kp z _ z5) (by simp) λh6 z6 b6=>AAo (s:={ s with heap:=h6,toks:=t4 }) z6 (by simp) λh7 z7 b7=>AAB ⟨_,rfl,?_⟩));have sz:h5.objs.size=s.heap.objs.size:=by rw[b5.1,b4.1,b3.1,b2.1,b1.1]
 have zlt:z<h5.objs.size:=Heap.lt_size z5;have k7:∀c o,c≠z->h5.get? c=some o->h7.get? c=some o:=λc o hc e=>(b7.2 c hc).trans ((b6.2 c hc).trans (kp c o e));refine q x y h5.objs.size h7 t4 px py (by rw[sz];exact AAE _) ?_ z7 (hI5.keep λo e=>k7 TI o ap.zTI.symm e) (hO5.keep λo e=>k7 TO o ap.zTO.symm e) (D1.frame _ _ h7 s15 λc hc o e=>k7 c o (λy=>ap.z1 (y ▸ hc)) e) (D2.frame _ _ h7 s25 λc hc o e=>k7 c o (λy=>ap.z2 (y ▸ hc)) e) ?_
 ·refine⟨{ cls:=.type "tuple",data:=.seq #[x,y] },?_,rfl,0,rfl⟩;have ne:h5.objs.size≠z:=Nat.ne_of_gt zlt;exact(b7.2 _ ne).trans ((b6.2 _ ne).trans (AAD _ rfl))
 ·intro c o c1 c2 c3 c4 e;exact k7 c o c1 (k5 c o c2 (k4 c o c4 (k3 c o c2 (k2 c o c3 (k1 c o c1 e)))))
theorem Ti{z TI TO i1 i2:Addr}{n:Nat}{a b:Value}(ap:Jc z TI TO i1 i2 f1 f2)(D1:Draws prog w A.in1 i1 f1 n P1 S1)
  (hz:s.heap.get? z=some (DJ TI TO .none)) (hI:TwoAt s.heap TI (.ref i1) (.ref i2)) (hO:TwoAt s.heap TO a b) (s1:S1 n s.heap)
  (q:∀h' e,(∀c o,c≠z->c≠i1->s.heap.get? c=some o->h'.get? c=some o)->(∃o,h'.get? e=some o/\o.cls=.type "StopIteration")->E (.ref e) { s with heap:=h' }) :
  wpAny (model prog w) A.in1 (Builtin.«zip.__next__» ⟨[.ref z],[]⟩) Q E s:=by
 obtain⟨nI,eI⟩:=id hI;refine AAA (m:=field (.ref z) 2) (AAs hz rfl (x:=.bool false) rfl (AAA (m:=field (.ref z) 3) (AAs hz rfl (x:=.ref TI) rfl (AAA (m:=seqItems? (.ref TI)) (AAt eI rfl ?_)))));refine DK (by simp) (AAA (m:=Builtin.SmallTypes.ownedTupleIsFree (.ref z)) ?_);unfold Builtin.SmallTypes.ownedTupleIsFree;refine AAA (m:=field (.ref z) 0) (AAs hz rfl (x:=.none) rfl (AAB ?_));rw[if_pos rfl];refine AAA (wpAny_rule (AAA (m:=field (.ref z) 4) (AAs hz rfl (x:=.ref TO) rfl (AAA (AAo hz (by simp) λh1 z1 b1=>?_)))));have s11:=D1.frame _ _ h1 s1 λc hc o e=>(b1.2 c (λy=>ap.z1 (y ▸ hc))).trans e;refine AAA (m:=forIn [(Value.ref i1,0),(Value.ref i2,1)] _ _) ?_;rw[List.forIn_cons];refine AAA (AAA (wpAny_onRaise (AAA (D1.done { s with heap:=h1 } _ _ s11 λh2 e eb so=>?_))));have zne:z≠i1:=λy=>ap.z1 (y ▸ ap.m1);have z2:h2.get? z=some (DJ TI TO .ellipsis):=eb z _ zne z1;obtain⟨oe,he,hce⟩:=so;refine AAo (s:={ s with heap:=h2 }) z2 (by simp) λh3 z3 b3=>q h3 e (λc o c1 c2 x=>(b3.2 c c1).trans (eb c o c2 ((b1.2 c c1).trans x))) ⟨oe,?_,hce⟩;have ez:e≠z:=λy=>by
  rw[y,z2] at he;cases he;exact absurd (Value.type.inj (show Value.type "zip" = Value.type "StopIteration" from hce)) (by decide)
 exact(b3.2 e ez).trans he
theorem GL{z TI TO:Addr}(hz:s.heap.get? z=some (DJ TI TO f0))(h:Q (.ref z) s):wpAny (model prog w) A (pyIter (.ref z)) Q E s:=wpAny_pyIter_zip hz h
theorem Lq(hh:A.handled=none){z TI TO i1 i2:Addr}{n:Nat}{S1 S2:Nat->Heap->Prop}{f1 f2:List Addr}(ap:Jc z TI TO i1 i2 f1 f2)
  (D1:Draws prog w A.in1 i1 f1 n P1 S1) (D2:Draws prog w A.in1 i2 f2 n P2 S2) :
  WalksT prog w A z (z::TI::TO::(f1++f2)) [z,TI,TO,i1,i2] n (λk vals=>∃x y,P1 k x/\P2 k y/\vals=#[x,y])
   (λk h=>h.get? z=some (DJ TI TO .none)/\TwoAt h TI (.ref i1) (.ref i2)/\(∃a b,TwoAt h TO a b)/\S1 k h/\S2 k h)
   (λk T h=>h.get? z=some (DJ TI TO (rawInt T))/\TwoAt h TI (.ref i1) (.ref i2)/\(∃a b,TwoAt h TO a b)/\S1 (k+1) h/\S2 (k+1) h/\T≠z/\T≠TI/\T≠TO/\T≠i1/\T≠i2) where
 sub:=λc hc=>by
  have hc':c=z∨c=TI∨c=TO∨c=i1∨c=i2:=by simpa using hc
  rcases hc' with e|e|e|e|e<;>subst e
  ·simp
  ·simp
  ·simp
  ·simp[ap.m1]
  ·simp[ap.m2]
 frame:=λk h h' st kp=>by
  obtain⟨a1,a2,⟨a,b,a3⟩,a4,a5⟩:=st;exact⟨kp z (by simp) _ a1,a2.keep λo e=>kp TI (by simp) o e,⟨a,b,a3.keep λo e=>kp TO (by simp) o e⟩,D1.frame _ _ _ a4 λc hc o e=>kp c (by simp[hc]) o e,D2.frame _ _ _ a5 λc hc o e=>kp c (by simp[hc]) o e⟩
 item:=λk s Q E hk st q=>by
  obtain⟨a1,a2,⟨a,b,a3⟩,a4,a5⟩:=st;have ty:s.TypeIs (.ref z) "zip" := ⟨_,a1,rfl⟩;unfold pyNext;refine AAA (wpAny_attempt (wpAny_callSpecial?_slot (name:=Str.ofString "__next__") ty F.slot_zip_next (AAb F.slot_zip_next ty F.entry_zip_next (Tj ap D1 D2 hk a1 a2 a3 a4 a5 λx y T h' tk px py hT tup b1 b2 b3 b4 b5 kp=>?_) (F.args_zip_next_1 _))));have lt:∀{c:Addr} {o:Obj},s.heap.get? c=some o->T≠c:=λe=>Nat.ne_of_gt (AAM (Heap.lt_size e) hT);obtain⟨o1,e1⟩:=D1.live _ _ a4;obtain⟨o2,e2⟩:=D2.live _ _ a5;obtain⟨n3,e3⟩:=a3;obtain⟨n4,e4⟩:=id a2;refine AAB (q T #[x,y] h' tk ⟨x,y,px,py,rfl⟩ hT tup ⟨b1,b2,⟨x,y,b3⟩,b4,b5,lt a1,lt e4,lt e3,lt e1,lt e2⟩ λc o hc e=>?_);exact kp c o (λz=>hc (by simp[z])) (λz=>hc (by simp[z])) (λz=>hc (by simp[z])) (λz=>hc (by simp[z])) e
 go:=λes k0 pos k T s Q E st q=>by
  obtain⟨a1,a2,a3,a4,a5,t1,t5,t2,t3,t4⟩:=st;refine wpAny_letOwnedTupleGo_zip a1 λh' hz' sb=>?_;have kp:∀c o,c≠z->s.heap.get? c=some o->h'.get? c=some o:=λc o hc e=>(sb.2 c hc).trans e;obtain⟨a,b,a3⟩:=a3;refine q h' ⟨hz',a2.keep λo e=>kp TI o ap.zTI.symm e,⟨a,b,a3.keep λo e=>kp TO o ap.zTO.symm e⟩,D1.frame _ _ _ a4 λc hc o e=>kp c o (λy=>ap.z1 (y ▸ hc)) e,D2.frame _ _ _ a5 λc hc o e=>kp c o (λy=>ap.z2 (y ▸ hc)) e⟩ λc o hc e=>kp c o (λy=>hc (by simp[y])) e
 apart:=λk T h st hT=>by
  obtain⟨_,_,_,_,_,t1,t5,t2,t3,t4⟩:=st;have hT':T=z∨T=TI∨T=TO∨T=i1∨T=i2:=by simpa using hT
  rcases hT' with e|e|e|e|e
  ·exact t1 e
  ·exact t5 e
  ·exact t2 e
  ·exact t3 e
  ·exact t4 e
 done:=λs Q E st q=>by
  obtain⟨a1,a2,⟨a,b,a3⟩,a4,a5⟩:=st;have ty:s.TypeIs (.ref z) "zip" := ⟨_,a1,rfl⟩;unfold pyNext;refine AAA (wpAny_attempt (wpAny_callSpecial?_slot (name:=Str.ofString "__next__") ty F.slot_zip_next (AAb F.slot_zip_next ty F.entry_zip_next (Ti ap D1 a1 a2 a3 a4 λh' e kp so=>?_) (F.args_zip_next_1 _))));obtain⟨o,ho,hc⟩:=so;refine AAA (wpAny_isInstance (T := "StopIteration") (b:=true) ⟨o,ho,hc⟩ isSubtype_stop (AAB (q h' s.toks λc o hc e=>?_)));exact kp c o (λy=>hc (by simp[y])) (λy=>hc (by simp[y])) e
 self:=λk s Q E st h=>GL st.1 h
end
end L2
namespace L2
open PySem PySem.Spec PyProof.Rows
noncomputable abbrev Fr(a b:Value):Obj:={ cls:=.type "tuple",data:=.seq #[a,b] }
noncomputable abbrev zh2(h:Heap)(o1 o2:Obj):Heap:=(h.push o1).push o2
noncomputable abbrev zh4(h:Heap)(o1 o2:Obj):Heap:=((zh2 h o1 o2).push (Fr (.ref h.objs.size) (.ref (h.push o1).objs.size))).push (Fr .none .none)
noncomputable abbrev zh5(h:Heap)(o1 o2:Obj):Heap:=(zh4 h o1 o2).push (DJ (zh2 h o1 o2).objs.size ((zh2 h o1 o2).push (Fr (.ref h.objs.size) (.ref (h.push o1).objs.size))).objs.size .none)
theorem QR(v1 v2:Value)(o1 o2:Obj)(g1 g2:Heap->Prop)(g2p:∀h,g2 h->g2 (h.push o1))
  (w1:∀(prog:Program) (w:World) (A:Around) (E:Value->Shared->Prop) (s:Shared) (Q:Value->Shared->Prop),g1 s.heap->Q (.ref s.heap.objs.size) { s with heap:=s.heap.push o1 }->wpAny (model prog w) A (pyIter v1) Q E s)
  (w2:∀(prog:Program) (w:World) (A:Around) (E:Value->Shared->Prop) (s:Shared) (Q:Value->Shared->Prop),g2 s.heap->Q (.ref s.heap.objs.size) { s with heap:=s.heap.push o2 }->wpAny (model prog w) A (pyIter v2) Q E s) :
  Meets (Builtin.«zip.__new__» ⟨[.type "zip",v1,v2],[]⟩) (λ_ R s=>g1 s.heap/\g2 s.heap/\R (.ok (.ret (.ref (zh4 s.heap o1 o2).objs.size))) { s with heap:=zh5 s.heap o1 o2 }):=by
 refine .of_wp λprog w A R s ⟨x1,x2,q⟩=>?_;have own:=sub_zip;have walk1:∀(A:Around) (E:Value->Shared->Prop) (Q:Value->Shared->Prop),Q (.ref s.heap.objs.size) { s with heap:=s.heap.push o1 }->wpAny (model prog w) A (pyIter v1) Q E s:=λA E Q z=>w1 prog w A E s Q x1 z;have walk2:∀(A:Around) (E:Value->Shared->Prop) (Q:Value->Shared->Prop),Q (.ref (s.heap.push o1).objs.size) { s with heap:=zh2 s.heap o1 o2 }->wpAny (model prog w) A (pyIter v2) Q E { s with heap:=s.heap.push o1 }:=λA E Q z=>w2 prog w A E { s with heap:=s.heap.push o1 } Q (g2p _ x2) z;obtain⟨hp,gs,dr,tk,os⟩:=s
 wp_walk using walk1,walk2
 exact⟨_,rfl,q⟩
noncomputable def Jv(xs ys:List V)(i:Nat):List V:=[xs.getD i .non,ys.getD i .non]
theorem Ln(r:Vals xs its)(r2:Vals ys jts)(h:∃x y,its.toArray[i]?=some x/\jts.toArray[i]?=some y/\vals=#[x,y]):Vals (Jv xs ys i) vals.toList:=by
 obtain⟨x,y,hx,hy,rfl⟩:=h;have one:∀{zs:List V} {us:List Value} {u:Value},Vals zs us->us.toArray[i]?=some u->RelV (zs.getD i .non) u:=λ{zs us u} rz hu=>by
  have hu':us[i]?=some u:=by simpa using hu
  have hl:=rz.length;have lt:i<zs.length:=by have:=(AAT.mp hu').1;omega
  obtain⟨u',e1,e2⟩:=rz.get (show zs[i]?=some zs[i] by simp[lt]);rw[hu'] at e1;cases e1;simpa[List.getD,lt] using e2
 exact .cons (one r hx) (.cons (one r2 hy) .nil)
theorem SI{P:Program}{w:World}{K:PySem.W.Frag}(a b z TI TO i1 i2:Addr)(xs ys:List V)(hl:ys.length=xs.length)(ap:Jc z TI TO i1 i2 [i1,a] [i2,b])(h1:a≠i1)(h2:b≠i2):
  Jd P w K (.Tuple es k0 pos) (ItP K xs.length (Jv xs ys) λK H=>SqT K H a xs/\SqT K H b ys) [z,TI,TO,i1,i2] z (λi h=>h.get? z=some (DJ TI TO .none)/\TwoAt h TI (.ref i1) (.ref i2)/\(∃c d,TwoAt h TO c d)/\h.IsTupleIter i1 a i/\h.IsTupleIter i2 b i):=by
 refine Ha (ι:=List Value×List Value) (good:=λp=>Vals xs p.1/\Vals ys p.2) (Pt:=λp i vals=>∃x y,p.1.toArray[i]?=some x/\p.2.toArray[i]?=some y/\vals=#[x,y])
  (Sw:=λp i h=>h.get? z=some (DJ TI TO .none)/\TwoAt h TI (.ref i1) (.ref i2)/\(∃c d,TwoAt h TO c d)/\(h.IsTupleIter i1 a i/\h.IsTuple a p.1.toArray)/\(h.IsTupleIter i2 b i/\h.IsTuple b p.2.toArray))
  (Mid:=λp i T h=>h.get? z=some (DJ TI TO (rawInt T))/\TwoAt h TI (.ref i1) (.ref i2)/\(∃c d,TwoAt h TO c d)/\(h.IsTupleIter i1 a (i+1)/\h.IsTuple a p.1.toArray)/\(h.IsTupleIter i2 b (i+1)/\h.IsTuple b p.2.toArray)/\T≠z/\T≠TI/\T≠TO/\T≠i1/\T≠i2)
  (fp:=z::TI::TO::([i1,a]++[i2,b]))
  (λA hA p r=>?walk) AAP (λp i vals r h=>Ln r.1 r.2 h) (λi=>(by show 2<=sizeLine;decide)) (λi h st=>?obj) (λi h h' st k=>?keep) (λX pins σ H s i hP hw hK I hc st=>?into) (λp i h st=>⟨st.1,st.2.1,st.2.2.1,st.2.2.2.1.1,st.2.2.2.2.1⟩) (λA i s Q E st h=>GL st.1 h)
 case walk=>
  have l1:p.1.toArray.size=xs.length:=by rw[List.size_toArray];exact r.1.length.symm
  have l2:p.2.toArray.size=xs.length:=by rw[List.size_toArray,←hl];exact r.2.length.symm
  have D1:=G7 (prog:=P) (w:=w) (A:=A.in1) hA i1 a h1 p.1.toArray;have D2:=G7 (prog:=P) (w:=w) (A:=A.in1) hA i2 b h2 p.2.toArray;rw[l1] at D1;rw[l2] at D2;exact Lq hA ap D1 D2
 case obj=>
  intro c hc;obtain⟨a1,⟨n1,a2⟩,⟨c0,d0,n2,a3⟩,⟨o4,a4,_,d4⟩,⟨o5,a5,_,d5⟩⟩:=st;have hc':c=z∨c=TI∨c=TO∨c=i1∨c=i2:=by simpa using hc
  rcases hc' with e|e|e|e|e<;>subst e
  ·exact⟨_,a1,λv q=>by cases q⟩
  ·exact⟨_,a2,λv q=>by cases q⟩
  ·exact⟨_,a3,λv q=>by cases q⟩
  ·exact⟨_,a4,λv q=>by rw[d4] at q;cases q⟩
  ·exact⟨_,a5,λv q=>by rw[d5] at q;cases q⟩
 case keep=>
  obtain⟨a1,a2,⟨c0,d0,a3⟩,⟨o4,a4,r4⟩,⟨o5,a5,r5⟩⟩:=st;exact⟨k z (by simp) _ a1,a2.keep λo e=>k TI (by simp) o e,⟨c0,d0,a3.keep λo e=>k TO (by simp) o e⟩,⟨o4,k i1 (by simp) o4 a4,r4⟩,⟨o5,k i2 (by simp) o5 a5,r5⟩⟩
 case into=>
  subst hK;obtain⟨c1,c2⟩:=hc;obtain⟨a1,a2,a3,a4,a5⟩:=st;obtain⟨its,r,p,_⟩:=I.tuple c1;obtain⟨jts,r2,p2,_⟩:=I.tuple c2;exact⟨(its,jts),⟨r,r2⟩,a1,a2,a3,⟨a4,p⟩,⟨a5,p2⟩⟩
section
theorem Oz:bootBuiltins "zip" = some (.type "zip"):=by decide +kernel
noncomputable def dD(K:PySem.W.Frag)(ta:TA):TI:=λσ H R=>ta σ H λvs H1=>∃a b xs ys,vs=[.ref a,.ref b]/\SqT K H1 a xs/\SqT K H1 b ys/\ys.length=xs.length/\R (ItP K xs.length (Jv xs ys) λK H=>SqT K H a xs/\SqT K H b ys) H1
end
section
variable{X:Cx}{es:List Expr}{k0:Nat}{tpos:Pos}
theorem nin(h1:c≠n)(h2:c≠l):c∉([n,l]:List Nat):=λh=>by
 have h':c=n∨c=l:=by simpa using h
 exact h'.elim h1 h2
theorem zap(n l m:Nat)(hl:l<n)(hm:m<n):Jc (n+4) (n+2) (n+3) n (n+1) [n,l] [n+1,m] where
 zTI:=(by omega:¬(n+4:Nat)=n+2)
 zTO:=(by omega:¬(n+4:Nat)=n+3)
 io:=(by omega:¬(n+2:Nat)=n+3)
 z1:=nin (by omega) (by omega)
 z2:=nin (by omega) (by omega)
 o1:=nin (by omega) (by omega)
 o2:=nin (by omega) (by omega)
 n1:=(by omega:¬(n+2:Nat)=n)
 n2:=(by omega:¬(n+2:Nat)=n+1)
 m1:=AAP
 m2:=AAP
 x12:=nin (by omega) (by omega)
 x21:=nin (by omega) (by omega)
theorem Rn(I:Inv X pins σ H s)(c:Addr)(hc:s.heap.objs.size<=c):GB X pins H c:=I.fpOk hc (I.hok.fresh hc)
theorem XZ(hg:Gl X "zip")(hm:X.mg "zip" = none)(ha:PA X [a,b] ta)(hs:starEach [a,b] X.env=(false,eval a X.env)::starEach [b] X.env)(hpl:(backTo pos (starEach [b] X.env)).any (·.1)=false):
  PI X (.Tuple es k0 tpos) (.Call (.Name "zip" p) [a,b] [] pos) (dD X.kw ta):=by
 intro pins s σ H R I h;refine Call_ (F4 I hg hm Oz (PyProof.Rows.callWith_type1 (thn (ha pos pins s σ H _ I h) λus s1 ⟨vs,H1,I1,r1,q1⟩=>?_) hs hpl));obtain⟨l,m,xs,ys,ev,hx,hy,hl,q⟩:=q1;subst ev;obtain⟨u1,u2,eu,ru1,ru2⟩:=Vals.two r1;subst eu;cases ru1;cases ru2;obtain⟨its,rx,px,_⟩:=I1.tuple hx;obtain⟨jts,ry,py,_⟩:=I1.tuple hy;have ltl:l<s1.heap.objs.size:=by obtain⟨o,e,_⟩:=px;exact Heap.lt_size e
 have ltm:m<s1.heap.objs.size:=by obtain⟨o,e,_⟩:=py;exact Heap.lt_size e
 have new:=QR (.ref l) (.ref m) { cls:=.type "tuple_iterator",data:=.fields #[.ref l,.int 0 0] } { cls:=.type "tuple_iterator",data:=.fields #[.ref m,.int 0 0] } (λh=>h.IsTuple l its.toArray) (λh=>h.IsTuple m jts.toArray) (λh x=>x.push _) (λ_ _ _ _ _ _ g z=>wpAny_pyIter_tuple g z) (λ_ _ _ _ _ _ g z=>wpAny_pyIter_tuple g z);refine callType_new F.called_zip (by decide) (F.typeCall_zip_2 _ _) (F.newCall_zip_2 _ _) (λobj=>F.args_object_init_3 obj _ _) F.entry_zip_new new ⟨px,py,?_⟩;generalize ho1:({ cls:=.type "tuple_iterator",data:=.fields #[.ref l,.int 0 0] }:Obj)=o1;generalize ho2:({ cls:=.type "tuple_iterator",data:=.fields #[.ref m,.int 0 0] }:Obj)=o2;have n1:(s1.heap.push o1).objs.size=s1.heap.objs.size+1:=Heap.size_push ..;have n2:(zh2 s1.heap o1 o2).objs.size=s1.heap.objs.size+2:=by rw[Heap.size_push,n1]
 have n3:((zh2 s1.heap o1 o2).push (Fr (.ref s1.heap.objs.size) (.ref (s1.heap.push o1).objs.size))).objs.size=s1.heap.objs.size+3:=by rw[Heap.size_push,n2]
 have n4:(zh4 s1.heap o1 o2).objs.size=s1.heap.objs.size+4:=by rw[Heap.size_push,n3]
 have kp:∀c o,s1.heap.get? c=some o->(zh5 s1.heap o1 o2).get? c=some o:=λc o e=>AAC _ (AAC _ (AAC _ (AAC _ (AAC _ e))));have f1:o1.isFreed=false:=by rw[←ho1];rfl
 have f2:o2.isFreed=false:=by rw[←ho2];rfl
 have a1:(zh5 s1.heap o1 o2).get? s1.heap.objs.size=some o1:=AAC _ (AAC _ (AAC _ (AAC _ (AAD _ f1))));have a2:(zh5 s1.heap o1 o2).get? (s1.heap.objs.size+1)=some o2:=by rw[←n1];exact AAC _ (AAC _ (AAC _ (AAD _ f2)))
 have a3:(zh5 s1.heap o1 o2).get? (s1.heap.objs.size+2)=some (Fr (.ref s1.heap.objs.size) (.ref (s1.heap.objs.size+1))):=by
  rw[←n1,←n2];exact AAC _ (AAC _ (AAD _ rfl))
 have a4:(zh5 s1.heap o1 o2).get? (s1.heap.objs.size+3)=some (Fr .none .none):=by
  rw[←n3];exact AAC _ (AAD _ rfl)
 have a5:(zh5 s1.heap o1 o2).get? (s1.heap.objs.size+4)=some (DJ (s1.heap.objs.size+2) (s1.heap.objs.size+3) .none):=by
  rw[←n4,←n2,←n3];exact AAD _ rfl
 show _/\_;rw[n4];refine⟨⟨_,a5,rfl⟩,GL a5 ?_⟩;refine⟨s1.heap.objs.size+4,[s1.heap.objs.size+4,s1.heap.objs.size+2,s1.heap.objs.size+3,s1.heap.objs.size,s1.heap.objs.size+1],_,_,H1,rfl,I1.kept (t':=s1.toks) kp,
  SI l m (s1.heap.objs.size+4) (s1.heap.objs.size+2) (s1.heap.objs.size+3) s1.heap.objs.size (s1.heap.objs.size+1) xs ys hl (zap _ l m ltl ltm) (AAc ltl) (AAc (AAg ltm)),⟨a5,⟨_,a3⟩,⟨_,_,_,a4⟩,⟨o1,a1,by rw[←ho1],by rw[←ho1];rfl⟩,⟨o2,a2,by rw[←ho2],by rw[←ho2];rfl⟩⟩,λc hc=>Rn I1 c ?_,q⟩
 have hc':c=s1.heap.objs.size+4∨c=s1.heap.objs.size+2∨c=s1.heap.objs.size+3∨c=s1.heap.objs.size∨c=s1.heap.objs.size+1:=by simpa using hc
 rcases hc' with e|e|e|e|e<;>subst e<;>first|exact AAE _|exact Nat.le_add_right _ _
end
end L2
namespace Mi
open PySem L2
section
variable{X:Cx}{a b:Expr}{es:List Expr}{pos:Pos}
noncomputable def GM:List D->List D->List D
 |x::xs,y::ys=>.tup [x,y]::GM xs ys
 |_,_=>[]
noncomputable def Gv:List D->M (List D)
 |[.tup xs,.tup ys]=>λμ=>if ys.length=xs.length then some (GM xs ys,μ) else none
 |_=>BO
noncomputable def Vf(m:Sl->M (List D)):Sl->M (List D):=λτ=>bnd (m τ) Gv
theorem ID:∀{xs ys:List D},ys.length=xs.length->(GM xs ys).length=xs.length
 |[],[],_=>rfl
 |x::xs,y::ys,h=>by unfold GM;simp at h ⊢;exact ID h
 |[],_::_,h=>by simp at h
 |_::_,[],h=>by simp at h
theorem KF:∀{xs ys:List D} {j:Nat} {d:D},(GM xs ys)[j]?=some d->∃x y,xs[j]?=some x/\ys[j]?=some y/\d=.tup [x,y]
 |[],_,j,d,h=>by simp[GM] at h
 |_::_,[],j,d,h=>by simp[GM] at h
 |x::xs,y::ys,0,d,h=>by simp[GM] at h;exact⟨x,y,rfl,rfl,h.symm⟩
 |x::xs,y::ys,j+1,d,h=>by
  obtain⟨x',y',h1,h2,h3⟩:=KF (xs:=xs) (ys:=ys) (j:=j) (d:=d) (by simpa[GM] using h);exact⟨x',y',by simpa using h1,by simpa using h2,h3⟩
theorem X6{K:KW}{ι:Nat->Addr}{μ:Mh}{ds es:List D}{Cond:PySem.W.Frag->Hp->Prop}(st:∀ι' (μ':Mh) H',Ext ι μ.length H ι' μ'.length H'->RelH K ι' μ' H'->Cond K H')(i:IsL K ι μ.length H ds vs)(j:IsL K ι μ.length H es ws)(hl:es.length=ds.length):
  ItM K (ItP K vs.length (Jv vs ws) Cond) (GM ds es) ι μ H:=by
 intro ι' μ' H' E R;have h:=st ι' μ' H' E R;rw[ID hl,←i.length];refine⟨λj hj=>⟨hj,h⟩,⟨rfl,h⟩,λk x H2 d hd y=>?_⟩;obtain⟨T,hT,rfl,rfl⟩:=y;obtain⟨E2,R2⟩:=R.laid (.tup (Jv vs ws k)) hT;refine⟨E2,R2,?_⟩;obtain⟨x,y,h1,h2,rfl⟩:=KF hd;obtain⟨v,ev,iv⟩:=(i.ext E).get h1;obtain⟨u,eu,iu⟩:=(j.ext E).get h2;have es':Jv vs ws k=[v,u]:=by unfold Jv;simp[List.getD,ev,eu]
 have key:IsL K ι' (List.length μ') (upd H' T (.tup (Jv vs ws k))) [x,y] [v,u]:=.cons (iv.ext E2) (.one (iu.ext E2));unfold Is;exact⟨T,_,rfl,SqT.of Bt,(congrArg (IsL K ι' (List.length μ') (upd H' T (.tup (Jv vs ws k))) [x,y]) es').mpr key⟩
theorem Qu{p tpos:Pos}{m:Sl->M (List D)}(hm:X.mg "zip" = none)(ha:RA X [a,b] m)(hg:Gl X "zip" := by rfl)(hs:starEach [a,b] X.env=(false,eval a X.env)::starEach [b] X.env:=by exact BH rfl)(hpl:(backTo pos (starEach [b] X.env)).any (·.1)=false:=by exact BY rfl):
  RI X (.Tuple es k0 tpos) (.Call (.Name "zip" p) [a,b] [] pos) (Vf m):=
 RI.wk (XZ hg hm ha.pe hs hpl) λσ H R q=>by
  obtain⟨ι,μ,τ,ds,μ',R0,S,e,q⟩:=q;obtain⟨xs,μ1,e1,e2⟩:=AI e;refine⟨ι,μ,τ,xs,μ1,R0,S,e1,λι1 H1 E1 R1 vs i1=>?_⟩;unfold Gv at e2;split at e2
  ·rename_i xs ys;split at e2
   ·rename_i hl;cases e2;obtain⟨v,u,rfl,i2,i3⟩:=LE i1;unfold Is at i2 i3;obtain⟨p,ws,rfl,h1,h2⟩:=i2;obtain⟨p',ws',rfl,h1',h2'⟩:=i3;exact⟨p,p',ws,ws',rfl,h1,h1',by rw[h2.length,h2'.length];exact hl,q ι1 H1 E1 R1 _ (X6 (λι' μ' H' E _=>⟨G3 E h1,G3 E h1'⟩) h2 h2' hl)⟩
   ·cases e2
  ·cases e2
end
end Mi
namespace L2
open PySem PySem.Spec PyProof.Rows Sem
noncomputable def C2(xs:List Str):List Str:=xs.foldl (λys x=>if x∈ys then ys else ys++[x]) []
theorem MC(xs:List Str)(x:Str):C2 (xs++[x])=if x∈C2 xs then C2 xs else C2 xs++[x]:=by
 unfold C2;rw[List.foldl_append];rfl
theorem MD:∀(xs ys:List Str),(xs.foldl (λys x=>if x∈ys then ys else ys++[x]) ys).length<=ys.length+xs.length
 |[],ys=>AAE _
 |x::xs,ys=>by
  rw[List.foldl_cons];have:=MD xs (if x∈ys then ys else ys++[x]);split at this<;>simp at this ⊢<;>(try split)<;>simp_all<;>omega
theorem Xq(xs:List Str):(C2 xs).length<=xs.length:=by
 have:=MD xs [];simpa[C2] using this
section
variable{prog:Program}{w:World}{A:Around}{E:Value->Shared->Prop}{s:Shared}
theorem Uc(hS:s.heap.SetOf (strKind prog w) S (λk=>decide (k∈C2 xs)) (C2 xs).length)(room:xs.length+2<scanBound)
  (q:∀b h' tk,Heap.SameBut S s.heap h'->h'.SetOf (strKind prog w) S (λk=>decide (k∈C2 (xs++[x]))) (C2 (xs++[x])).length->Q b { s with heap:=h',toks:=tk }) :
  wpAny (model prog w) A (setAdd S (.str x t)) Q E s:=by
 unfold setAdd;refine AAn (AAA ((strKind prog w).pyHash (strKind_is prog w x t) ?_));have le:=Xq xs;refine wpAny_setAddHashed_of (knd:=strKind prog w) (s:={ s with toks:=s.toks+1 }) (strKind_is prog w x t) rfl hS (by omega) λh' sb hS'=>q _ h' _ sb ?_;have e1:(λk':Str=>decide (k'∈C2 xs)||decide (k'=x))=λk'=>decide (k'∈C2 (xs++[x])):=by
  funext k'
  rw[MC];split
  ·rename_i hx;by_cases e:k'=x
   ·subst e;simp[hx]
   ·simp[e]
  ·simp
 have e2:(if decide (x∈C2 xs)=true then (C2 xs).length else (C2 xs).length+1)=(C2 (xs++[x])).length:=by
  rw[MC];by_cases hx:x∈C2 xs<;>simp[hx]
 rw[e1,e2] at hS';exact hS'
theorem Ud(hh:A.in1.handled=none)(hlI:l≠I)(hSI:S≠I)(hSl:S≠l)(rv:Vals (ss.map V.str) its)(room:ss.length+2<scanBound):
  ∀(m i:Nat) (s:Shared),ss.length-i=m->i<=ss.length->s.heap.IsListIter I l i->s.heap.IsList l its.toArray->s.heap.SetOf (strKind prog w) S (λk=>decide (k∈C2 (ss.take i))) (C2 (ss.take i)).length->
   (∀h' tk,(∀c o,c≠S->c≠I->s.heap.get? c=some o->h'.get? c=some o)->h'.SetOf (strKind prog w) S (λk=>decide (k∈C2 ss)) (C2 ss).length->R (.ok (.ret .none)) { s with heap:=h',toks:=tk })->
   codeAny (model prog w) A (.builtin "set.update.loop" ⟨[.ref S,.ref I],[]⟩) R s:=by
 have hl:its.length=ss.length:=by have:=rv.length;simpa using this.symm
 have W:=Walks.list (prog:=prog) (w:=w) hh I l hlI its.toArray;intro m
 induction m with
 |zero=>
  intro i s hm hi hit hls hS q;have ei:i=ss.length:=by omega
  subst ei;refine codeAny_builtin PyProof.Rows.F.entry_set_update_loop ?_;rw[Around.under_plainId PyProof.Rows.F.plain_set_update_loop _];refine AAA (m:=pyNext (.ref I)) (W.done s _ _ ⟨by rw[List.size_toArray,hl];exact hit,hls⟩ λh' tk kp=>AAB ?_);rw[List.take_length] at hS;obtain⟨o,es,ep,tb,ho,rest⟩:=hS;exact q h' tk (λc o _ c2 e=>kp c o (by simpa using c2) e) ⟨o,es,ep,tb,kp S o (by simpa using hSI) ho,rest⟩
 |succ m ih=>
  intro i s hm hi hit hls hS q;have lt:i<ss.length:=by omega
  refine codeAny_builtin PyProof.Rows.F.entry_set_update_loop ?_;rw[Around.under_plainId PyProof.Rows.F.plain_set_update_loop _];refine AAA (m:=pyNext (.ref I)) (W.item i s _ _ (by rw[List.size_toArray,hl];exact lt) ⟨hit,hls⟩ λv h' tk hv st kp=>?_);obtain⟨u,eu,ru⟩:=rv.get (show (ss.map V.str)[i]?=some (V.str ss[i]) by simp[lt]);have hv':its[i]?=some v:=by simpa using hv
  rw[eu] at hv';cases hv';obtain⟨t,rfl⟩:=ru;obtain⟨o,es,ep,tb,ho,rest⟩:=hS;have hS1:h'.SetOf (strKind prog w) S (λk=>decide (k∈C2 (ss.take i))) (C2 (ss.take i)).length:=⟨o,es,ep,tb,kp S o (by simpa using hSI) ho,rest⟩;refine AAA (AAn (Uc (s:={ s with heap:=h',toks:=tk }) hS1 (by rw[List.length_take];omega) λb h2 t2 sb hS2=>?_));have tk1:ss.take i++[ss[i]]=ss.take (i+1):=by rw[List.take_succ,AAr lt];rfl
  rw[tk1] at hS2;have k2:∀c o,c≠S->h'.get? c=some o->h2.get? c=some o:=λc o hc e=>(sb.2 c hc).trans e;refine AAB ⟨plainId_quiet PyProof.Rows.F.plain_set_update_loop _,ih (i+1) _ (by omega) lt (st.1.at λo e=>k2 I o hSI.symm e) (st.2.at λo e=>k2 l o hSl.symm e) hS2 λh3 t3 kp3 hS3=>?_⟩;exact q h3 t3 (λc o c1 c2 e=>kp3 c o c1 c2 (k2 c o c1 (kp c o (by simpa using c2) e))) hS3
end
section
variable{prog:Program}{w:World}{A:Around}{E:Value->Shared->Prop}{s:Shared}
set_option maxHeartbeats 2000000 in
theorem Xw(ft:TypeCalled T nid iid)(ok:checkTypeCall T ⟨args,[]⟩=pure ())
  (new:codeAny (model prog w) A.in1 (.call (.builtin nid) ⟨.type T::args,[]⟩) (wants Q₁ E) s)
  (init:∀x s₁,Q₁ x s₁->s₁.TypeIs x T/\codeAny (model prog w) A.in1 (.call (.builtin iid) ⟨x::args,[]⟩) (wants (λr s₂=>r=.none/\Q x s₂) E) s₁) :
  wpAny (model prog w) A (call (.type T) args) Q E s:=by
 have a1:=ft.notType;have a2:=ft.canCreate;have a3:=ft.made;have a4:=ft.sub;obtain⟨c,tl,a5⟩:=ft.mro;have step:codeAny (model prog w) A (.builtin "type.__call__" ⟨.type T::args,[]⟩) (wants Q E) s:=by
  refine codeAny_builtin F.entry_type_call ?_;rw[Around.under_plain (weight_type_call_type T args []) rfl];unfold Builtin.«type.__call__»
  iterate 3 (any_goals (first|assumption|wp_step))
  first|refine wpAny_of_eq ok ?_|refine AAA (wpAny_of_eq ok ?_)
  repeat (any_goals (first|assumption|wp_step))
  refine codeAny_mono new λr s₁ hr=>?_
  match r,hr with
  | .error e,hr=>exact hr
  | .ok (.ret x),hr=>
   obtain⟨ty,run⟩:=init x s₁ hr;have b1:=ft.init.lookup;have b2:=ft.init.bind x
   repeat (any_goals (first|assumption|wp_step))
   refine codeAny_mono run λr₂ s₂ hr₂=>?_
   match r₂,hr₂ with
   | .error e,hr₂=>exact hr₂
   | .ok (.ret y),hr₂=>
    obtain⟨ey,hq⟩:=hr₂;subst ey
    repeat (any_goals (first|assumption|wp_step))
 exact wpAny_call (codeAny_of_tree (AAB ⟨Code.quiet_builtin _ (by decide +kernel),step⟩))
noncomputable abbrev DE(led:Bool):Obj:={ cls:=.type "set",data:=.set #[] 0 (.fresh 0 0 led) }
set_option maxHeartbeats 2000000 in
theorem TV(hh:A.handled=none)(hl:s.heap.IsList l its.toArray)(rv:Vals (ss.map V.str) its)(room:ss.length+2<scanBound)
  (q:∀h' tk,(∀c o,s.heap.get? c=some o->h'.get? c=some o)->h'.SetOf (strKind prog w) s.heap.objs.size (λk=>decide (k∈C2 ss)) (C2 ss).length->Q (.ref s.heap.objs.size) { s with heap:=h',toks:=tk }) :
  wpAny (model prog w) A (call (.type "set") [.ref l]) Q E s:=by
 refine Xw F.called_set (F.typeCall_set_1 _) (code_set_new_1 (.ref l) (Q₁:=λx s₁=>∃led:Bool,x=.ref s.heap.objs.size/\s₁={ s with heap:=s.heap.push (DE led) }) λled=>⟨led,rfl,rfl⟩) ?_;rintro x s₁ ⟨led,rfl,rfl⟩;have at_S:(s.heap.push (DE led)).get? s.heap.objs.size=some (DE led):=AAD _ rfl;have ty:Shared.TypeIs { s with heap:=s.heap.push (DE led) } (.ref s.heap.objs.size) "set" := ⟨_,at_S,rfl⟩;have lt:l<s.heap.objs.size:=by obtain⟨o,e,_⟩:=hl;exact Heap.lt_size e
 have hl1:(s.heap.push (DE led)).IsList l its.toArray:=hl.push _;have tyl:Shared.TypeIs { s with heap:=s.heap.push (DE led) } (.ref l) "list" := hl1.typeIs;refine⟨ty,codeAny_call_builtin F.called_set.init.plain F.entry_set_init (check_set_init_1 ty ?_)⟩;have c1:=F.sub_list_set;have c2:=F.sub_list_frozenset;unfold Builtin.«set.__init__» noKeywords Builtin.Frozenset.updateFrom;have walk:∀(A:Around) (E:Value->Shared->Prop) (Q:Value->Shared->Prop),Q (.ref (s.heap.push (DE led)).objs.size) { s with heap:=(s.heap.push (DE led)).push { cls:=.type "list_iterator",data:=.fields #[.ref l,.int 0 0] } }->wpAny (model prog w) A (pyIter (.ref l)) Q E { s with heap:=s.heap.push (DE led) }:=λA E Q z=>wpAny_pyIter_list hl1 z
 wp_walk using walk
 have sz:(s.heap.push (DE led)).objs.size=s.heap.objs.size+1:=Heap.size_push ..;refine Ud (l:=l) (ss:=ss) (A:=A.in1.in1) (by simp[hh]) (by rw[sz];exact AAc (AAg lt)) (by rw[sz];exact AAc (Nat.lt_succ_self _)) (Nat.ne_of_gt lt) rv room ss.length 0 _ (Nat.sub_zero _) (AAi _) ⟨_,AAD _ rfl,rfl,rfl⟩ (hl1.push _) ?start λh' tk kp hS=>?fin
 case start=>
  exact(setObjOf_fresh (knd:=strKind prog w) led).setOf (AAC _ at_S) (by decide)
 case fin=>
  have ltS:∀{c:Addr} {o:Obj},s.heap.get? c=some o->c<s.heap.objs.size:=λe=>Heap.lt_size e;exact AAB (AAB ⟨rfl,q h' tk (λc o e=>kp c o (AAc (ltS e)) (by rw[sz];exact AAc (AAg (ltS e))) (AAC _ (AAC _ e))) hS⟩)
end
noncomputable def W6(P:Program)(w:World)(p:Addr)(ss:List Str):HO:=.ext λh=>h.SetOf (strKind P w) p (λk=>decide (k∈C2 ss)) (C2 ss).length
section
variable{X:Cx}
theorem TU(hc:X.calm=true):Cd X (.type "set") (λxs H Q=>∃a ss,xs=[.ref a]/\SqL X.kw H a (ss.map V.str)/\ss.length+2<scanBound/\∀p,H p=none->Q (.ref p) (upd H p (W6 X.prog X.w p ss))):=by
 intro pins s σ H xs us Q I r h;obtain⟨a,ss,rfl,ha,room,q⟩:=h;obtain⟨u,rfl,ru⟩:=Vals.one r;cases ru;obtain⟨its,rv,pl,hz⟩:=I.list ha;refine TV (I.ok.hd hc) pl.isList rv room λh' tk kp hS=>?_;refine⟨.ref s.heap.objs.size,_,I.laid (o:=W6 X.prog X.w s.heap.objs.size ss) kp (AAE _) ?_,rfl,q _ (I.hok.fresh (AAE _))⟩;obtain⟨o,es,ep,t,e,rest⟩:=id hS;refine⟨hS,⟨o,e⟩,λh1 h2 z k=>?_⟩;obtain⟨o,es,ep,t,e,rest⟩:=z;exact⟨o,es,ep,t,k o e,rest⟩
theorem TY:Cd X (.builtin "len") (λxs H Q=>∃p ss,xs=[.ref p]/\H p=some (W6 X.prog X.w p ss)/\Q (.int (C2 ss).length) H):=by
 intro pins s σ H xs us Q I r h;obtain⟨p,ss,rfl,hp,q⟩:=h;obtain⟨u,rfl,ru⟩:=Vals.one r;cases ru;obtain⟨hS,_⟩:=I.hok p _ hp;obtain⟨o,es,ep,t,e,ex,hd,_,_,hb,hf,hn⟩:=hS;refine call_len_set e ex hd hf (by unfold scanBound at hb;omega) ?_;rw[hn];exact⟨.int (C2 ss).length,H,I.tok _,⟨_,rfl⟩,q⟩
end
end L2
namespace Mi
open PySem L2
noncomputable def GC:List D->Option (List Str)
 |[]=>some []
 | .str x::ds=>(GC ds).map (x::·)
 |_=>none
theorem Kb:∀{ds:List D} {vs:List V} {ss:List Str},IsL K ι k H ds vs->GC ds=some ss->vs=ss.map V.str
 |[],_,_,h,e=>by cases e;unfold IsL at h;exact h
 |d::ds,_,_,h,e=>by
  cases d with
  |str x=>
   unfold IsL at h;obtain⟨v,vs',rfl,h1,h2⟩:=h;have e':(GC ds).map (x::·)=some _:=e;cases q:GC ds with
   |none=>rw[q] at e';cases e'
   |some ss=>
    rw[q] at e';cases e';unfold Is at h1;rw[h1,Kb h2 q];rfl
  |_=>cases e
noncomputable def J7(d:D):M D:=bnd (Bs d) λds=>λμ=>match GC ds with
 |some ss=>if ss.length+2<scanBound then some (.int (C2 ss).length,μ) else none
 |none=>none
section
variable{X:Cx}{e:Expr}{pos p p2 pos2:Pos}
theorem SV(yl:X.mg "len" = none)(ys:X.mg "set" = none)(he:RE X e m)(hc:X.calm=true:=by rfl)(hgl:Gl X "len" := by rfl)(hgs:Gl X "set" := by rfl)(hst:NP e=false:=by rfl):
  RE X (.Call (.Name "len" p) [.Call (.Name "set" p2) [e] [] pos2] [] pos) (mUn J7 m):=by
 have hs:PE X (.Call (.Name "set" p2) [e] [] pos2) _:=L9 (TU hc) hgs ys Mi.WR (NC he.pe Po (BH hst)) (by decide) (by decide) (BH hst) rfl;refine RE.wk (OO TY hgl yl Mi.Au (NC hs Po (BH rfl)) (by decide) (by decide) (BH rfl) rfl) λσ H Q h=>?_;obtain⟨ι,μ,τ,d,μ',R,S,ev,q⟩:=h;obtain⟨x,μ1,e1,e2⟩:=AI ev;obtain⟨ds,μ2,e3,e4⟩:=AI e2;refine⟨ι,μ,τ,x,μ1,R,S,e1,λι1 H1 E1 R1 v1 i1=>?_⟩;obtain⟨hm,a,vs,rfl,h1,h2⟩:=D6 R1 i1 e3;subst hm;cases hx:GC ds with
 |none=>rw[hx] at e4;cases e4
 |some ss=>
  rw[hx] at e4;have e5:(if ss.length+2<scanBound then some (D.int (C2 ss).length,μ2) else none)=some (d,μ'):=e4;split at e5
  ·rename_i room;cases e5;refine⟨a,ss,rfl,by rw[←Kb h2 hx];exact h1,room,λp hp=>?_⟩;obtain⟨E2,R2⟩:=R1.laid (W6 X.prog X.w p ss) hp;exact⟨p,ss,rfl,Bt,q ι1 _ (E1.trans E2) R2 _ (ofI _)⟩
  ·cases e5
end
inductive How where
 |all|drop|frz
noncomputable def VY(μ2:Mh):How->D->D
 | .frz,.ref n=>match μ2[n]? with
  |some (.lst ds)=>.lst ds
  |_=>.ref n
 |_,d=>d
noncomputable def Jw(μ μ2:Mh):How->Mh
 | .all=>μ2
 |_=>μ2.take μ.length
open Classical in
noncomputable def BF(hw:How)(n ps:Nat)(mb:Sl->M (Fl×Sl)):List D->M D:=λds μ=>match mb (BQ n ds) μ with
 |some ((fl,_),μ2)=>if ds.length=ps/\(fl=.next∨∃d,fl=.rt d)/\Gr μ μ2 (Jw μ μ2 hw) (HE fl) (VY μ2 hw (HE fl)) then some (VY μ2 hw (HE fl),Jw μ μ2 hw) else none
 |none=>none
theorem Hw(h:BF hw n ps mb ds μ=some (d,μ')):
  ds.length=ps/\∃fl τ2 μ2,mb (BQ n ds) μ=some ((fl,τ2),μ2)/\(fl=.next∨∃d,fl=.rt d)/\Gr μ μ2 μ' (HE fl) d:=by
 unfold BF at h;split at h
 ·rename_i fl τ2 μ2 e;split at h
  ·rename_i c;cases h;exact⟨c.1,fl,τ2,μ2,e,c.2.1,c.2.2⟩
  ·cases h
 ·cases h
theorem Ff(e:mb (BQ n ds) μ=some ((fl,τ2),μ2))(hl:ds.length=ps)(hf:fl=.next∨∃d,fl=.rt d)(t:Gr μ μ2 (Jw μ μ2 hw) (HE fl) (VY μ2 hw (HE fl))):
  BF hw n ps mb ds μ=some (VY μ2 hw (HE fl),Jw μ μ2 hw):=by
 unfold BF;rw[e];exact if_pos ⟨hl,hf,t⟩
theorem BL(e:mb (BQ n ds) μ=some ((.rt d,τ2),μ++g))(hl:ds.length=ps)(c:Cl μ.length d):BF .drop n ps mb ds μ=some (d,μ):=by
 have t:Jw μ (μ++g) .drop=μ:=by show (μ++g).take μ.length=μ;rw[List.take_left]
 have h:=Ff (hw:=.drop) e hl (.inr ⟨d,rfl⟩) (by rw[t];exact Hb c);rw[t] at h;exact h
theorem BA(e:mb (BQ n ds) μ=some ((.next,τ2),μ++g))(hl:ds.length=ps):BF .drop n ps mb ds μ=some (.non,μ):=by
 have t:Jw μ (μ++g) .drop=μ:=by show (μ++g).take μ.length=μ;rw[List.take_left]
 have h:=Ff (hw:=.drop) e hl (.inl rfl) (by rw[t];exact Hb (by show Cl _ D.non;unfold Cl;trivial));rw[t] at h;exact h
theorem HA(e:mb (BQ n ds) μ=some ((.rt (.ref k),τ2),μ++g))(hl:ds.length=ps)(hk:μ.length<=k)(hg:(μ++g)[k]?=some (.lst es))(c:ClL μ.length es):BF .frz n ps mb ds μ=some (.lst es,μ):=by
 have t:Jw μ (μ++g) .frz=μ:=by show (μ++g).take μ.length=μ;rw[List.take_left]
 have o:VY (μ++g) .frz (HE (.rt (.ref k)))=.lst es:=by
  show (match (μ++g)[k]? with|some (.lst ds)=>D.lst ds|_=>.ref k)=_;rw[hg]
 have h:=Ff (hw:=.frz) e hl (.inr ⟨_,rfl⟩) (by rw[t,o];exact⟨⟨g,rfl⟩,AAE _,λ_ _ z=>.inl z,.inr ⟨k,es,rfl,hg,hk,rfl,c⟩⟩);rw[t,o] at h;exact h
theorem Hy(e:mb (BQ n ds) μ=some ((.rt (.lst es),τ2),μ++g))(hl:ds.length=ps)(c:ClL μ.length es):BF .frz n ps mb ds μ=some (.lst es,μ):=by
 have t:Jw μ (μ++g) .frz=μ:=by show (μ++g).take μ.length=μ;rw[List.take_left]
 have h:=Ff (hw:=.frz) e hl (.inr ⟨_,rfl⟩) (by rw[t];exact Hb (by show Cl _ (D.lst es);unfold Cl;exact c));rw[t] at h;exact h
theorem A7(hw:How)(F:Fun K x qual st f fd)(S:Ac N ps (AN st))(hm:mg x=some (.ref f))(hb:Binds K fd ps [])
  (body:∀(cdv:Value) (A:Around) (outer:List Env) (s:Shared) (H:Hp) (E:XK),Room k (A.deeper (PyProof.Rows.envOfC qual (AN st) s.heap.objs.size f cdv))->RSs (Ip CX0 P w K mg base N qual (AN st) f cdv A outer s H E).nox (CU st) mb) :
  Fn P w K mg base x ps (k+1) (BF hw N.length ps.length mb):=
 aw F S hm hb body (λds μ r h=>(Hw (d:=r.1) (μ':=r.2) h).1) (λds μ d μ' h=>(Hw h).2)
theorem Fn.mono(F:Fn P w K mg base x ps j φ)(h:j<=k):Fn P w K mg base x ps k φ:=by
 obtain⟨len,f,fd,F,hm,hk,hb⟩:=F;exact⟨len,f,fd,F.mono h,hm,hk,hb⟩
theorem Fc(F:Fun K x qual st f fd)(hm:mg x=some (.ref f))(hb:Binds K fd ps []):Fn P w K mg base x ps k (λ_=>BO):=by
 refine⟨(λds μ r h=>absurd (show (none:Option (D×Mh))=some r from h) (by simp)),⟨f,fd,⟨λvs H Q E h=>?_,λA outer s H args us vs Q E _ _ _ _ h=>?_⟩,hm,F.kp,hb⟩⟩
 ·obtain⟨_,ι,μ,as,d,μ',_,_,e,_⟩:=h;cases e
 ·obtain⟨_,ι,μ,as,d,μ',_,_,e,_⟩:=h;cases e
section
variable{P:Program}{w:World}{K:PySem.W.Frag}{mg:Str->Option Value}{base h:Heap}{x:Str}
noncomputable def JH:List Value->Option (List Str)
 |[]=>some []
 | .str s _::r=>(JH r).map (s::·)
 |_::_=>none
theorem Je:∀{us:List Value} {xs:List Str},JH us=some xs->Vals (xs.map V.str) us
 |[],xs,e=>by cases e;exact .nil
 |u::r,xs,e=>by
  cases u with
  |str s t=>
   have e:(JH r).map (s::·)=some xs:=e;cases q:JH r with
   |none=>rw[q] at e;cases e
   |some ys=>rw[q] at e;cases e;exact .cons ⟨t,rfl⟩ (Je q)
  |_=>cases e
def TupLit(K:PySem.W.Frag)(p:Addr)(xs:List Str):Prop:=∃od its n sl,K.lookup p=some ⟨.type "tuple",od,.seq its n,sl⟩/\JH its.toList=some xs
theorem bV(l:K.lookup p=some ⟨.type "tuple",od,.seq its n,sl⟩)(e:JH its.toList=some xs):TupLit K p xs:=⟨od,its,n,sl,l,e⟩
theorem Of:∀xs:List Str,IsL ⟨K,w⟩ ι k H (xs.map D.str) (xs.map V.str)
 |[]=>.nil
 |_::r=>.cons (by unfold Is;rfl) (Of r)
theorem TupLit.is(h:TupLit K p xs)(hl:xs.length<=1000):Is ⟨K,w⟩ ι k H (.tup (xs.map D.str)) (.ref p):=by
 obtain⟨od,its,n,sl,l,e⟩:=h;have v:=Je e;unfold Is;refine⟨p,_,rfl,.inr ⟨_,its,n,l,rfl,rfl,?_,v⟩,Of xs⟩;have:=v.length;rw[AAF] at this;have z:its.size=xs.length:=by rw[this];simp
 rw[z];exact Nat.le_of_lt (SR hl)
theorem EB(X:K.In h)(G:h.Ns mainGlobals mg)(a:PySem.W.nsIn K mainGlobals x=some (some (.int i t))):Glo K mg x (.int i):=
 ⟨_,.int i,PySem.W.mg_of X G a,⟨t,rfl⟩,λ_ _ _ _=>by unfold Is;rfl⟩
theorem Rl(X:K.In h)(G:h.Ns mainGlobals mg)(a:PySem.W.nsIn K mainGlobals x=some (some (.str s t))):Glo K mg x (.str s):=
 ⟨_,.str s,PySem.W.mg_of X G a,⟨t,rfl⟩,λ_ _ _ _=>by unfold Is;rfl⟩
theorem NV(X:K.In h)(G:h.Ns mainGlobals mg)(a:PySem.W.nsIn K mainGlobals x=some (some (.ref p)))(l:TupLit K p xs)(hl:xs.length<=1000):Glo K mg x (.tup (xs.map D.str)):=
 ⟨_,.ref p,PySem.W.mg_of X G a,rfl,λ_ _ _ _=>l.is hl⟩
noncomputable def TabIs(K:PySem.W.Frag):List DictEntry->List (Str×List Str)->Prop
 |[],t=>t=[]
 |e::es,t=>∃x ys t' tok p,t=(x,ys)::t'/\e.key=.str x tok/\e.val=.ref p/\TupLit K p ys/\ys.length<=1000/\TabIs K es t'
theorem TabIs.noref:∀{es:List DictEntry} {t:List (Str×List Str)},TabIs K es t->es.any (·.refKey)=false
 |[],_,_=>rfl
 |e::es,t,h=>by
  obtain⟨x,ys,t',tok,p,rfl,hk,_,_,_,r⟩:=h;rw[List.any_cons,r.noref,Bool.or_false];show DictEntry.refKey e=false;unfold DictEntry.refKey;rw[hk]
noncomputable def Mz(t:List (Str×List Str))(y:Str):Option D:=(t.find? (·.1==y)).map λp=>.tup (p.2.map D.str)
theorem TabIs.find:∀{es:List DictEntry} {t:List (Str×List Str)} (y:Str),TabIs K es t->(es.find? (·.key.isStr y)=none/\Mz t y=none)∨∃e p ys,es.find? (·.key.isStr y)=some e/\e.val=.ref p/\TupLit K p ys/\ys.length<=1000/\Mz t y=some (.tup (ys.map D.str))
 |[],t,y,h=>by cases (show t=[] from h);exact .inl ⟨rfl,rfl⟩
 |e::es,t,y,h=>by
  obtain⟨x,ys,t',tok,p,rfl,hk,hv,l,hl,r⟩:=h;have q:e.key.isStr y=(x==y):=by rw[hk];rfl
  cases b:(x==y) with
  |true=>
   right;refine⟨e,p,ys,?_,hv,l,hl,?_⟩
   ·rw[List.find?_cons];simp only[q,b]
   ·unfold Mz;rw[List.find?_cons];simp only[b];rfl
  |false=>
   have z1:(e::es).find? (·.key.isStr y)=es.find? (·.key.isStr y):=by rw[List.find?_cons];simp only[q,b]
   have z2:Mz ((x,ys)::t') y=Mz t' y:=by unfold Mz;rw[List.find?_cons];simp only[b]
   rw[z1,z2];exact r.find y
theorem RZ(X:K.In h)(G:h.Ns mainGlobals mg)(a:PySem.W.nsIn K mainGlobals x=some (some (.ref ad)))(l:K.lookup ad=some ⟨.type "dict",none,.dict es n,#[]⟩)(kl:PySem.W.KeysLit w.params es.toList)
  (hs:(ad==sysModules)=false) (T:TabIs K es.toList t):Tf w K mg x (Mz t):=by
 refine⟨ad,PySem.W.mg_of X G a,λy=>?_⟩;have nr:=T.noref;rcases T.find y with ⟨f,g⟩|⟨e,p,ys,f,hv,tl,hl,g⟩
 ·refine⟨none,⟨y,es,n,none,rfl,l,kl,?_,trivial,hs⟩,.inl ⟨g,rfl⟩⟩;unfold PySem.W.nsIn;rw[l];simp only[f,nr];rfl
 ·refine⟨some (.ref p),⟨y,es,n,some (.ref p),rfl,l,kl,?_,rfl,hs⟩,.inr ⟨_,.ref p,g,rfl,λ_ _ _=>tl.is hl⟩⟩;unfold PySem.W.nsIn;rw[l];simp only[f,hv]
structure Df(K:PySem.W.Frag)(x:Str)(st:Stmt)(f:Addr)(fd:FuncData):Prop where
 a:PySem.W.nsIn K mainGlobals x=some (some (.ref f))
 F:Fun K x x st f fd
theorem dW{st:Stmt}{f:Addr}{oc:Value}{osl:Array (Option Value)}{kV doc pm cdv ct:Value}(a:PySem.W.nsIn K mainGlobals x=some (some (.ref f)))(l:K.lookup f=some ⟨oc,od,.func (PySem.W.fnOf x x (F6 st) (CU st) (AN st) .none kV doc pm an cdv ct),osl⟩)
  (c:PySem.W.codeIn K cdv x=true) (k:PySem.W.keepIn K (.ref f)=true):∃f fd,Df K x st f fd:=⟨f,_,a,P7 l c k⟩
theorem V7(hw:How)(F:Fun K x qual st f fd)(S:Ac N ps (AN st))
  (body:∀(cdv:Value) (A:Around) (outer:List Env) (s:Shared) (H:Hp) (E:XK),Room k (A.deeper (PyProof.Rows.envOfC qual (AN st) s.heap.objs.size f cdv))->RSs (Ip CX0 P w K mg base N qual (AN st) f cdv A outer s H E).nox (CU st) mb) :
  FnOk P w K mg base CX0 (k+1) f fd ps (spM ⟨K,w⟩ ps.length (BF hw N.length ps.length mb)):=
 MR F S rfl body (λds μ d μ' h=>(Hw h).2)
noncomputable def Ql(K:PySem.W.Frag):Sp:=λvs H Q _=>∃(a:Addr) (ns:List Int),vs=[.ref a]/\ScrAt K H a (ns.map V.int)/\ns.length<=63/\∀H',Q (.bl true) H'
theorem ZB(F:FnOk P w K mg base CX0 k f fd ["_law_script"] (spM ⟨K,w⟩ 1 φ))(hφ:∀ns:List Int,ns.length<=63->∃μ',φ [.scr ns] []=some (.bl true,μ')):FnOk P w K mg base CX0 k f fd ["_law_script"] (Ql K):=
 F.imp λvs H Q E q=>by
  obtain⟨a,ns,rfl,s,hl,q⟩:=q;obtain⟨μ',e⟩:=hφ ns hl;refine⟨rfl,λ_=>a,[],[.scr ns],.bl true,μ',⟨λi j h=>absurd h (Nat.not_lt_zero _),λn o e=>by simp at e⟩,.one (by unfold Is;exact⟨a,rfl,s⟩),e,λι2 H2 E2 R2 v i=>?_⟩;unfold Is at i;rw[i];exact q H2
theorem OF(o:YV H)(s:SqL K H a xs):ScrAt K H a xs:=by
 rcases s with z|z
 ·rcases z with z|⟨p,z⟩
  ·rcases o a with q|⟨p,ys,q⟩
   ·rw[q] at z;cases z
   ·rw[q] at z;cases z
  ·exact .inl ⟨p,z⟩
 ·exact .inr z
end
theorem bS{l:PySem.W.OpenLaw}{q:Program}{loose:List Str}{XP:(Str->Option Value)->Heap->Prop}{K:Params->PySem.W.Frag}{k:Nat}(hn:l.most=some 63)(hdf:d.params.defaults=[])(hk:k<=60)
  (hY:∀(w:World) (h:Heap),YP w h->(K w.params).In h)
  (F:∀(w:World) (mg:Str->Option Value) (fa:Addr) (h:Heap),(K w.params).In h->h.Ns mainGlobals mg->mg d.name=some (.ref fa)->
   ∃fd:FuncData,(∀(s:Shared) (u:Value),BindsTo s fd ⟨[u],[]⟩ [("_law_script",u)])/\∀base:Heap,(K w.params).In base->base.Ns mainGlobals mg->FnOk l.prog w (K w.params) mg base CX0 k fa fd ["_law_script"] (Ql (K w.params))) :
  PySem.W.WalkO q loose XP YP l.row.toRowW d [] (λf vs=>PySem.call f vs):=
 L2.Wv (n:=63) (k:=k) (x := "_law_script") (CX:=λ_=>CX0) (sp:=λw=>Ql (K w.params)) hn (by decide) hdf (Room.mono (j:=k) (k:=60) ⟨rfl,by decide,by decide⟩ hk) hY F (λ_ _ a ns hl o hS=>⟨a,ns,rfl,OF o hS,hl,λ_=>rfl⟩) λ_ _ _ _ _ z=>z
def Pu{α:Type}(m:Sl->M α):Prop:=∀τ μ a μ',m τ μ=some (a,μ')->μ'=μ
def Pu2(g:D->D->M D):Prop:=∀x y μ a μ',g x y μ=some (a,μ')->μ'=μ
theorem Q2:Pu (AD i):=λτ μ a μ' e=>by
 unfold AD at e;split at e
 ·cases e;rfl
 ·cases e
theorem cK:Pu (mC d):=λτ μ a μ' e=>by cases e;rfl
theorem Q0:Pu Bu:=λτ μ a μ' e=>by cases e;rfl
theorem Yi(hg:Pu2 g)(ha:Pu ma)(hb:Pu mb):Pu (mOp g ma mb):=λτ μ a μ' e=>by
 obtain⟨x,μ1,e1,e2⟩:=AI e;obtain⟨y,μ2,e3,e4⟩:=AI e2;rw[hg _ _ _ _ _ e4,hb _ _ _ _ e3,ha _ _ _ _ e1]
theorem Q1(h:Pu m):Pu (AR m):=λτ μ a μ' e=>by
 obtain⟨x,μ1,e1,e2⟩:=AI e;have z:=h _ _ _ _ e1;cases x with
 |bl b=>cases e2;exact z
 |_=>cases e2
theorem U9:Pu2 (HM n):=λx y μ a μ' e=>by
 unfold HM at e;split at e
 ·split at e
  ·cases e;rfl
  ·cases e
 ·cases e
theorem Mg(e:Bs d μ=some (ds,μ')):μ'=μ:=by
 cases d with
 |lst _=>cases e;rfl
 |scr _=>cases e;rfl
 |ref n=>
  have e:(match μ[n]? with|some (.lst ds)=>some (ds,μ)|_=>none)=some (ds,μ'):=e;split at e
  ·cases e;rfl
  ·cases e
 |_=>cases e
theorem Td(e:Bl d μ=some (ds,μ')):μ'=μ:=by
 cases d with
 |tup _=>cases e;rfl
 |_=>exact Mg (by unfold Bl at e;exact e)
theorem Yj:Pu2 AU:=λx y μ a μ' e=>by
 unfold AU at e;split at e
 ·split at e
  ·rename_i z i hl;cases q:atI z.cps.toList i with
   |none=>rw[q] at e;cases e
   |some c=>rw[q] at e;cases e;rfl
  ·cases e
 ·obtain⟨ds,μ1,e1,e2⟩:=AI e;have z:=Td e1;unfold ixD at e2;rename_i i _;cases q:atI ds i with
  |none=>rw[q] at e2;cases e2
  |some c=>rw[q] at e2;cases e2;exact z
 ·cases e
section
variable{X:Cx}{scope:Scope}{tgs:List Str}{ix:List Nat}{e elt tg iter:Expr}{pos:Pos}
noncomputable def O6:D->M (List D)
 | .ref n=>λμ=>match μ[n]? with
  |some (.lst ds)=>some (ds,μ)
  |_=>none
 |_=>BO
noncomputable def Ic(m:Sl->M D):Sl->M (List D):=λτ=>bnd (m τ) O6
noncomputable def ItP(K:KW)(J:It)(ds:List D)(ι:Nat->Addr)(μ:Mh)(H:Hp):Prop:=∀ι' H',Ext ι μ.length H ι' μ.length H'->RelH K ι' μ H'->
 (∀i,i<ds.length->J.go i H')/\J.stop ds.length H'/\∀(i:Nat) x H2 d,ds[i]?=some d->J.yld i H' x H2->Ext ι' μ.length H' ι' μ.length H2/\RelH K ι' μ H2/\Is K ι' μ.length H2 d x
theorem ItP.ext(h:ItP K J ds ι μ H)(E:Ext ι μ.length H ι' μ.length H'):ItP K J ds ι' μ H':=λι2 H2 E2 R2=>h ι2 H2 (E.trans E2) R2
noncomputable def tIP(K:KW)(m:Sl->M (List D)):TI:=λσ H R=>∃ι μ τ ds μ',RelH K ι μ H/\RelS K ι μ.length H τ σ/\m τ μ=some (ds,μ') /\
 Aft K ι μ H μ' λι' H'=>∀J,ItP K J ds ι' μ' H'->R J H'
structure RIP(X:Cx)(tg iter:Expr)(m:Sl->M (List D)):Prop where
 pe:PI X tg iter (tIP X.kw m)
theorem Pf(h:RE X e m):RIP X tg e (Ic m):=⟨PI.wk (Q7 h.pe) λσ H Q q=>by
 obtain⟨ι,μ,τ,ds,μ',R0,S,e,q⟩:=q;obtain⟨x,μ1,e1,e⟩:=AI e;cases x with
 |ref n=>
  have e:(match μ1[n]? with|some (.lst ds)=>some (ds,μ1)|_=>none)=some (ds,μ'):=e;split at e
  ·rename_i es hn;cases e;refine⟨ι,μ,τ,_,_,R0,S,e1,λι1 H1 E1 R1 v i1=>?_⟩;unfold Is at i1;obtain⟨hk,rfl⟩:=i1;obtain⟨u,hu,o⟩:=R1.obj n _ hn;obtain⟨vs,rfl,iv⟩:=o;refine⟨_,rfl,⟨vs,SqL.of hu⟩,q ι1 H1 E1 R1 _ ?_⟩;intro ι2 H2 E2 R2;obtain⟨u2,hu2,o2⟩:=R2.obj n _ hn;obtain⟨vs2,rfl,iv2⟩:=o2;rw[E2.agree n hk] at hu2;have hl:=iv2.length;refine⟨λj hj=>⟨vs2,vs2[j],SqL.of hu2,by simp⟩,⟨vs2,SqL.of hu2,by omega⟩,λj x H3 d hd y=>?_⟩;obtain⟨z,y⟩:=y;subst z;obtain⟨v,ev,iv3⟩:=iv2.get hd;have:=y vs2 (SqL.of hu2);rw[ev] at this;cases this;exact⟨R2.ext0,R2,iv3⟩
  ·cases e
 |_=>cases e⟩
theorem UX(pc:Pu mc)(pm:Pu me)(hn:tgs.length=n)(hf:∀ι μ μ' H ds vs d (Q:VK),RelH K ι μ H->IsL K ι μ.length H ds vs->fin ds μ=some (d,μ')->(Aft K ι μ H μ' λι' H'=>∀v,Is K ι' μ'.length H' d v->Q v H')->
   vs.length<=sizeLine/\∀p,H p=none->Q (.ref p) (upd H p (.lst vs)))
  (h:tE K (Bi n ix src (AM i) mc me fin) σ H Q):Ka tgs ix (tIP K src) (FE i) (tT K mc) (tE K me) σ H Q:=by
 subst hn;obtain⟨ι,μ,τ,d,μ',R,S,e,q⟩:=h;obtain⟨ds,ν,e1,e5⟩:=AI e;obtain⟨u,μ2,e2,e6⟩:=AI e5;obtain⟨zs,μ3,e3,e7⟩:=AI e6;obtain⟨hl,e4⟩:=CG e2;clear e e5 e6;subst e4;refine⟨ι,μ,τ,ds,_,R,S,e1,λι1 H1 E1 R1 J it=>?_⟩;refine⟨λi' m ys H=>m=ds.length-i'/\i'<=ds.length/\ys.length<=i'/\∃(ι:Nat->Addr) (as:List D),RelH K ι μ2 H/\RelS K ι μ2.length H τ σ/\ItP K J ds ι μ2 H/\IsL K ι μ2.length H as ys/\Cb (AM i) mc me (BR tgs.length ix τ) (ds.drop i') as μ2=some (zs,μ3) /\
  Aft K ι μ2 H μ' λι' H'=>∀v,Is K ι' μ'.length H' d v->Q v H',⟨ds.length,by simp,AAi _,AAE _,ι1,[],R1,S.ext E1,it,.nil,e3,λι2 H2 E2 R2=>q ι2 H2 (E1.trans E2) R2⟩,?_⟩
 rintro i' m ys H ⟨hm,hil,hyl,ι,as,R,S,it,ia,e3,q⟩;obtain⟨go,stop,yl⟩:=it ι H R.ext0 R;by_cases hlt:i'<ds.length
 ·refine .inr ⟨go i' hlt,by omega,λys' H'=>ys'.length<=i'+1/\∃(ι:Nat->Addr) (as:List D),RelH K ι μ2 H'/\RelS K ι μ2.length H' τ σ/\ItP K J ds ι μ2 H'/\IsL K ι μ2.length H' as ys'/\Cb (AM i) mc me (BR tgs.length ix τ) (ds.drop (i'+1)) as μ2=some (zs,μ3) /\
   Aft K ι μ2 H' μ' λι' H'=>∀v,Is K ι' μ'.length H' d v->Q v H',λys' H' z=>⟨_,(by omega:ds.length-(i'+1)<m),rfl,hlt,z⟩,λx H2 y=>?_⟩
  have hd:ds[i']?=some ds[i']:=by simp[hlt]
  obtain⟨E2,R2,ix2⟩:=yl i' x H2 _ hd y;rw[List.drop_eq_getElem_cons hlt] at e3;obtain⟨τ1,μ1,e1,e3⟩:=AI e3;cases e1;obtain⟨cc,μ5,e2,e3⟩:=AI e3;have z5:=pc _ _ _ _ e2;subst z5;have S2:=(S.ext E2).block (tgs:=tgs) (ix:=ix);show tT K mc _ H2 _;refine⟨ι,_,_,cc,_,R2,S2.set i ix2,e2,λι3 H3 E3 R3=>?_⟩;have E13:=E2.trans E3;cases cc with
  |false=>
   exact⟨by omega,ι3,as,R3,S.ext E13,it.ext E13,ia.ext E13,e3,λι5 H5 E5 R5=>q ι5 H5 (E13.trans E5) R5⟩
  |true=>
   obtain⟨y',μ4,e4,e8⟩:=AI e3;clear e3;have z4:=pm _ _ _ _ e4;subst z4;refine⟨ι3,_,_,y',_,R3,(S2.set i ix2).ext E3,e4,λι4 H4 E4 R4 v iv=>?_⟩;have E14:=E13.trans E4;exact⟨by simp;omega,ι4,as++[y'],R4,S.ext E14,it.ext E14,(ia.ext E14).append (.one iv),e8,λι5 H5 E5 R5=>q ι5 H5 (E14.trans E5) R5⟩
 ·have hi':i'=ds.length:=by omega
  subst hi';rw[List.drop_length] at e3;cases e3;obtain⟨z1,z2⟩:=hf ι _ μ' H _ ys d Q R ia e7 q;exact .inl ⟨stop,z1,z2⟩
theorem Kp(pc:Pu mc)(pm:Pu me)(S:BScope X scope tgs ix)(hc:X.calm=true)(hi:RIP X tg iter src)(hg:∀fp C s H,PG (cxB X scope tgs fp C s H) tg (FE i))(hif:∀fp C s H,Li (cxB X scope tgs fp C s H) ifs (tT X.kw mc))(he:∀fp C s H,RE (cxB X scope tgs fp C s H) elt me)
  (hin:i<tgs.length:=by decide) (hn:tgs.length=n:=by rfl) (hs:∀x,foldedSetIterable iter X.env x=pure x:=by intro _;rfl) (ht:∀o v,letOwnedTupleGo tg o v=pure ():=by intro _ _;rfl):RE X (.ListComp elt [⟨tg,iter,ifs,0⟩] scope pos) (Bi n ix src (AM i) mc me BE):=
 RE.wk (Q8 (te:=tE X.kw me) S hc hi.pe hg (NW hin) hif (λfp C s H=>(he fp C s H).pe) hs ht) λ_ _ _ h=>UX pc pm hn (λ_ _ _ _ _ _ _ _ R i e q=>EA R i e q) h
noncomputable def bL(n:Nat):D->M D
 | .lst b=>λμ=>match μ[n]? with
  |some (.lst a)=>BE (a++b) μ
  |_=>none
 |_=>BO
noncomputable def M9(a b:D):M D:=match a with
 | .ref n=>bL n b
 |_=>Bf a b
theorem aH:OpR X (binaryOp .Add) (rM X.kw M9):=λpins s σ H x y v u Q I rx ry h=>by
 obtain⟨ι,μ,a,b,d,μ',R,ia,ib,e,q⟩:=h;cases a with
 |ref n=>
  cases b with
  |lst bs=>
   have e:(match μ[n]? with|some (.lst a)=>BE (a++bs) μ|_=>none)=some (d,μ'):=e;split at e
   ·rename_i as hn;obtain⟨w,hu,o⟩:=R.obj n _ hn;obtain⟨vs,rfl,iv⟩:=o;unfold Is at ia ib;obtain⟨hk,rfl⟩:=ia;obtain⟨p',vs',rfl,h1',hn',h2'⟩:=ib;obtain⟨hl,w⟩:=EA R (iv.append h2') e q;exact NF pins s σ H _ _ v u Q I rx ry ⟨_,p',vs,vs',rfl,rfl,hu,h1',by rw[←AAG];exact hl,w⟩
   ·cases e
  |_=>cases e
 |_=>exact DX pins s σ H _ _ v u Q I rx ry ⟨ι,μ,_,b,d,μ',R,ia,ib,e,q⟩
end
end Mi
namespace K1
open PySem L2 Mi
noncomputable def sl(xs:List Str):D:=.tup (xs.map D.str)
noncomputable def G8:D:=.str "abcdefghijklmnopqrstuvwxyz"
noncomputable def D3:D:=.int 9
noncomputable def Ef:D:=.int 5
noncomputable def CL:D:=sl ["+", "-", "=", "<", "and", "or"]
noncomputable def KB:D:=sl ["safe", "steady", "whole"]
noncomputable def Eb:D:=.int 6
noncomputable def EG:D:=.int 2
noncomputable def Ea:D:=.int 4
noncomputable def EK:D:=.int 60
noncomputable def EF:D:=.int 400
noncomputable def F7:D:=.int 2
noncomputable def Go:D:=.int 10
noncomputable def Dl:D:=sl ["not", "and", "or"]
noncomputable def SL:List (Str×List Str):=[("put",["box", "expression"]),("get",["variable", "box"]),("let",["variable", "expression"]),("unless",["expression", "target"]),("jump",["target"]),("tell",["expression"]),("done",[])]
noncomputable def Bc:Str->Option D:=Mz SL
noncomputable def K6  : Sl->M (Fl×Sl):=
  (Ar (Dt (AF DC (AC (AD 0) (AC (mC (.ty "int")) AJ))) (Dt (MH (AF DC (AC (AD 0) (AC (mC (.ty "bool")) AJ)))) (Er Kt Kt (AD 1) (AD 0) (AD 2)))))
noncomputable def MG  : Sl->M (Fl×Sl):=
  (Ar (Dt (AF DC (AC (AD 0) (AC (mC (.ty "str")) AJ))) (Dt (Er Kt Kt (mC (.int 1)) (AF Bq (AC (AD 0) AJ)) (mC (.int 8))) (AF O7 (AC (Bi 1 [] (OX (AD 0)) (AM 0) Bu (mOp (Co false) (AD 0) (mC G8)) BE) AJ)))))
noncomputable def Ck(fF:List D->M D)(fG:List D->M D)(fE:List D->M D):Sl->M (Fl×Sl):=
  (AQ (sIf (mOr (AR (mOp Ez (AD 1) (mC (.int 1)))) (mOr (Fa (AR (AF DC (AC (AD 0) (AC (mC (.ty "tuple")) AJ))))) (AR (mOp A3 (AF Bq (AC (AD 0) AJ)) (mC (.int 0)))))) (Ar (mC (.bl false))) A1)
  (AQ (As (mOp AU (AD 0) (mC (.int 0))) (AM 2))
  (AQ (sIf (AR (mOp (Co false) (AD 2) (mC CL))) (Ar (Dt (mOp A3 (AF Bq (AC (AD 0) AJ)) (mC (.int 3))) (Dt (AF fF (AC (mOp AU (AD 0) (mC (.int 1))) (AC (mOp Em (AD 1) (mC (.int 1))) AJ))) (AF fF (AC (mOp AU (AD 0) (mC (.int 2))) (AC (mOp Em (AD 1) (mC (.int 1))) AJ)))))) A1)
  (AQ (sIf (AR (mOp Cj (AF Bq (AC (AD 0) AJ)) (mC (.int 2)))) (Ar (mC (.bl false))) A1)
  (AQ (sIf (AR (mOp A3 (AD 2) (mC (.str "num")))) (Ar (AF fG (AC (mOp AU (AD 0) (mC (.int 1))) (AC (mC (.int 0)) (AC (mC D3) AJ))))) A1)
  (AQ (sIf (AR (mOp A3 (AD 2) (mC (.str "var")))) (Ar (AF fE (AC (mOp AU (AD 0) (mC (.int 1))) AJ))) A1)
  (Ar (Dt (mOp A3 (AD 2) (mC (.str "not"))) (AF fF (AC (mOp AU (AD 0) (mC (.int 1))) (AC (mOp Em (AD 1) (mC (.int 1))) AJ)))))))))))
noncomputable def B0(fL:List D->M D):Sl->M (Fl×Sl):=
  (AQ (sIf (AR (mOp A3 (mOp AU (AD 0) (mC (.int 0))) (mC (.str "num")))) (Ar (AF BE AJ)) A1)
  (AQ (sIf (AR (mOp A3 (mOp AU (AD 0) (mC (.int 0))) (mC (.str "var")))) (Ar (AF BE (AC (mOp AU (AD 0) (mC (.int 1))) AJ))) A1)
  (AQ (As (AF Dq AJ) (AM 1))
  (AQ (Du (Dw (mSl (AD 0) (CQ (mC (.int 1))) Bp)) (AM 2) (Ag (BB Lg (AD 1) (AC (AF fL (AC (AD 2) AJ)) AJ))))
  (Ar (AD 1))))))
noncomputable def aM  : Sl->M (Fl×Sl):=
  (sIf (Fa (AR (AD 0))) JJ A1)
noncomputable def K7  : Sl->M (Fl×Sl):=
  (Ar (Dt (AF DC (AC (AD 0) (AC (mC (.ty "tuple")) AJ))) (Er Kt Kt (AD 1) (AF Bq (AC (AD 0) AJ)) (AD 2))))
noncomputable def Gg(fB:List D->M D)(fG:List D->M D):Sl->M (Fl×Sl):=
  (AQ (Ag (AF fB (AC (mOp (Co false) (AD 0) (mC KB)) (AC (mC (.str "a kind is safe, steady or whole")) AJ))))
  (AQ (Ag (AF fB (AC (AF fG (AC (AD 1) (AC (mC F7) (AC (mC Go) AJ)))) (AC (mC (.str "a size is a whole number from 2 to 10")) AJ))))
  (Ag (AF fB (AC (AF fG (AC (AD 2) (AC (mC (.int 0)) (AC (mOp Em (AD 1) (mC (.int 1))) AJ)))) (AC (mC (.str "a begin is a worth of its box")) AJ))))))
noncomputable def FZ(fF:List D->M D)(fG:List D->M D)(fE:List D->M D):Sl->M (Fl×Sl):=
  (AQ (sIf (AR (mOp A3 (AD 0) (mC (.str "expression")))) (Ar (AF fF (AC (AD 1) (AC (mC Ef) AJ)))) A1)
  (AQ (sIf (AR (mOp A3 (AD 0) (mC (.str "target")))) (Ar (AF fG (AC (AD 1) (AC (mC (.int 0)) (AC (AD 2) AJ))))) A1)
  (Ar (AF fE (AC (AD 1) AJ)))))
noncomputable def Eo(fB:List D->M D):Sl->M (Fl×Sl):=
  (sIf (AR (AD 1)) (Ag (AF fB (AC (mOp Cj (AD 0) (mC (.str "tell"))) (AC (mC (.str "the writer tells nothing")) AJ)))) (Ag (AF fB (AC (mOp Cj (AD 0) (mC (.str "done"))) (AC (mC (.str "a reader ends by telling")) AJ)))))
noncomputable def Gh(fD:List D->M D)(fB:List D->M D)(fK:List D->M D)(fe:List D->M D)(ff:List D->M D)(fk:List D->M D):Sl->M (Fl×Sl):=
  (AQ (Ag (AF fB (AC (AF fD (AC (AD 0) (AC (mC (.int 5)) (AC (mC (.int 5)) AJ)))) (AC (mC (.str "a making is a tuple of five parts")) AJ))))
  (AQ (Ag (AF fK (AC (mOp AU (AD 0) (mC (.int 0))) (AC (mOp AU (AD 0) (mC (.int 1))) (AC (mOp AU (AD 0) (mC (.int 2))) AJ)))))
  (AQ (Ag (AF fe (AC (mOp AU (AD 0) (mC (.int 3))) AJ)))
  (AQ (Ag (AF ff (AC (mOp AU (AD 0) (mC (.int 4))) AJ)))
  (AQ (As (Bi 1 [] (Dw (mOp AU (AD 0) (mC (.int 4)))) (AM 0) Bu (mOp AU (AD 0) (mC (.int 0))) BE) (AM 1))
  (AQ (As cm (AM 2))
  (AQ (Du (Dw (mOp AU (AD 0) (mC (.int 3)))) (AM 3) (AQ (Ag (AF fB (AC (mOp (Co false) (mOp AU (AD 3) (mC (.int 4))) (AD 1)) (AC (mC (.str "the hand of a box is none")) AJ))))
  (OH (AD 2) (mOp AU (AD 3) (mC (.int 0))) (mOp AU (AD 3) (mC (.int 4))))))
  (Du (Vh (AC (mOp AU (AD 0) (mC (.int 4))) AJ)) (DT [4,5]) (Ag (AF fk (AC (AD 5) (AC (mOp A3 (AD 4) (mC (.int 0))) (AC (AD 2) AJ)))))))))))))
noncomputable def HR(fD:List D->M D)(fB:List D->M D)(fE:List D->M D)(fK:List D->M D)(fP:List D->M D):Sl->M (Fl×Sl):=
  (AQ (Ag (AF fB (AC (AF fD (AC (AD 0) (AC (mC (.int 0)) (AC (mC Eb) AJ)))) (AC (mC (.str "boxes are a tuple of at most six")) AJ))))
  (AQ (Du (Dw (AD 0)) (AM 1) (AQ (Ag (AF fB (AC (AF fD (AC (AD 1) (AC (mC (.int 5)) (AC (mC (.int 5)) AJ)))) (AC (mC (.str "a box is a tuple of five parts")) AJ))))
  (AQ (Ag (AF fB (AC (AF fE (AC (mOp AU (AD 1) (mC (.int 0))) AJ)) (AC (mC (.str "a box has a name")) AJ))))
  (Ag (AF fK (AC (mOp AU (AD 1) (mC (.int 1))) (AC (mOp AU (AD 1) (mC (.int 2))) (AC (mOp AU (AD 1) (mC (.int 3))) AJ))))))))
  (Ag (AF fB (AC (AF fP (AC (Bi 1 [] (Dw (AD 0)) (AM 0) Bu (mOp AU (AD 0) (mC (.int 0))) BE) AJ)) (AC (mC (.str "two boxes have one name")) AJ))))))
noncomputable def HQ(fD:List D->M D)(fB:List D->M D)(fE:List D->M D)(fG:List D->M D)(fP:List D->M D):Sl->M (Fl×Sl):=
  (AQ (Ag (AF fB (AC (AF fD (AC (AD 0) (AC (mC EG) (AC (mC Ea) AJ)))) (AC (mC (.str "hands are a tuple of two to four")) AJ))))
  (AQ (Du (Dw (AD 0)) (AM 1) (AQ (Ag (AF fB (AC (AF fD (AC (AD 1) (AC (mC (.int 3)) (AC (mC (.int 3)) AJ)))) (AC (mC (.str "a hand is a tuple of three parts")) AJ))))
  (AQ (Ag (AF fB (AC (AF fE (AC (mOp AU (AD 1) (mC (.int 0))) AJ)) (AC (mC (.str "a hand has a name")) AJ))))
  (AQ (Ag (AF fB (AC (AF fG (AC (mOp AU (AD 1) (mC (.int 1))) (AC (mC (.int 0)) (AC (mC EF) AJ)))) (AC (mC (.str "a told count is a whole number from 0 to 400")) AJ))))
  (Ag (AF fB (AC (AF fD (AC (mOp AU (AD 1) (mC (.int 2))) (AC (mC (.int 0)) (AC (mC EK) AJ)))) (AC (mC (.str "rows are a tuple of at most sixty")) AJ))))))))
  (Ag (AF fB (AC (AF fP (AC (Bi 1 [] (Dw (AD 0)) (AM 0) Bu (mOp AU (AD 0) (mC (.int 0))) BE) AJ)) (AC (mC (.str "two hands have one name")) AJ))))))
noncomputable def Ia  : Sl->M (Fl×Sl):=
  (Ar (mOp A3 (mUn J7 (AD 0)) (AF Bq (AC (AD 0) AJ))))
noncomputable def NI(fj:List D->M D)(fY:List D->M D)(fW:List D->M D)(fB:List D->M D):Sl->M (Fl×Sl):=
  (Du (Dw (mOp AU (AD 0) (mC (.int 2)))) (AM 3) (AQ (Ag (AF fj (AC (AD 3) (AC (AF Bq (AC (mOp AU (AD 0) (mC (.int 2))) AJ)) AJ))))
  (AQ (Ag (AF fY (AC (mOp AU (AD 3) (mC (.int 0))) (AC (AD 1) AJ))))
  (AQ (Ag (AF fW (AC (AD 3) (AC (AD 1) AJ))))
  (AQ (sIf (AR (mOp A3 (mOp AU (AD 3) (mC (.int 0))) (mC (.str "put")))) (Ag (AF fB (AC (mOp A3 (K8 (AD 2) (mOp AU (AD 3) (mC (.int 1)))) (mOp AU (AD 0) (mC (.int 0)))) (AC (mC (.str "a hand puts a box that it does not write")) AJ)))) A1)
  (sIf (AR (mOp A3 (mOp AU (AD 3) (mC (.int 0))) (mC (.str "get")))) (Ag (AF fB (AC (mOp (TQ false) (mOp AU (AD 3) (mC (.int 2))) (AD 2)) (AC (mC (.str "a hand gets a box that is none")) AJ)))) A1))))))
noncomputable def CF(fD:List D->M D)(fB:List D->M D)(fz:List D->M D):Sl->M (Fl×Sl):=
  (AQ (Ag (AF fB (AC (AF fD (AC (AD 0) (AC (mC (.int 1)) (AC (mC (.int 3)) AJ)))) (AC (mC (.str "a row is a tuple of one to three parts")) AJ))))
  (AQ (Ag (AF fB (AC (Dt (AF DC (AC (mOp AU (AD 0) (mC (.int 0))) (AC (mC (.ty "str")) AJ))) (mUn (X4 Bc) (mOp AU (AD 0) (mC (.int 0))))) (AC (mC (.str "a row begins with one of seven words")) AJ))))
  (AQ (As (mUn (Re Bc) (mOp AU (AD 0) (mC (.int 0)))) (AM 2))
  (AQ (Ag (AF fB (AC (mOp A3 (AF Bq (AC (AD 0) AJ)) (mOp Bf (mC (.int 1)) (AF Bq (AC (AD 2) AJ)))) (AC (mC (.str "a row has the parts of its word")) AJ))))
  (Du (Vf (AC (AD 2) (AC (mSl (AD 0) (CQ (mC (.int 1))) Bp) AJ))) (DT [3,4]) (Ag (AF fB (AC (AF fz (AC (AD 3) (AC (AD 4) (AC (AD 1) AJ)))) (AC (RN [(mC (.str "a row has another thing than its ")),(Xy (AD 3))]) AJ)))))))))
noncomputable def FC(fZ:List D->M D)(fB:List D->M D):Sl->M (Fl×Sl):=
  (AQ (Du (Dw (AF fZ (AC (AD 0) AJ))) (AM 2) (AQ (Ag (AF fB (AC (mOp (Co true) (AD 2) (mC Dl)) (AC (mC (.str "a variable is called like a word of expressions")) AJ))))
  (Ag (AF fB (AC (Px (AD 1) (mOp Cj (AD 2) (mC (.str "v")))) (AC (mC (.str "a reader has no variable v")) AJ))))))
  (sIf (AR (mOp (Co false) (mOp AU (AD 0) (mC (.int 0))) (AF BU (AC (mC (.str "get")) (AC (mC (.str "let")) AJ))))) (Ag (AF fB (AC (mOp Cj (mOp AU (AD 0) (mC (.int 1))) (mC (.str "v"))) (AC (mC (.str "the variable v is set by no row")) AJ)))) A1))
noncomputable def BT(fL:List D->M D):Sl->M (Fl×Sl):=
  (AQ (As (AF Dq AJ) (AM 1))
  (AQ (Du (Vf (AC (mUn (Re Bc) (mOp AU (AD 0) (mC (.int 0)))) (AC (mSl (AD 0) (CQ (mC (.int 1))) Bp) AJ))) (DT [2,3]) (AQ (sIf (AR (mOp A3 (AD 2) (mC (.str "variable")))) (Ag (BB FQ (AD 1) (AC (AD 3) AJ))) A1)
  (sIf (AR (mOp A3 (AD 2) (mC (.str "expression")))) (Ag (BB Lg (AD 1) (AC (AF fL (AC (AD 3) AJ)) AJ))) A1)))
  (Ar (AD 1))))
noncomputable def Ho  : Sl->M (Fl×Sl):=
  (AQ (sIf (AR (mOp Ez (AD 1) (AF Bq (AC (AD 0) AJ)))) (Ar (mOp AU (AD 0) (AD 1))) A1)
  (Ar (mC (.int 0))))
noncomputable def NJ  : Sl->M (Fl×Sl):=
  (Ar (AF Dq (AC (AF Xu (AC (mC (.int 0)) (AC (mOp Em (AD 0) (mOp U5 (mC (.int 10)) (mC (.int 9)))) AJ))) (AC (mOp Jl (AD 0) (mC (.int 2147483647))) (AC (mC (.int 0)) AJ)))))
noncomputable def Ib  : Sl->M (Fl×Sl):=
  (AQ (sIf (AR (mOp M7 (mOp AU (AD 0) (mC (.int 0))) (mC (.int 0)))) (AQ (As (mOp Jl (mOp AU (AD 0) (mC (.int 0))) (AD 1)) (AM 2))
  (AQ (As (mOp JL (mOp AU (AD 0) (mC (.int 0))) (AD 1)) (WU (AD 0) (mC (.int 0))))
  (Ar (AD 2)))) A1)
  (AQ (As (mOp Bf (mOp AU (AD 0) (mC (.int 2))) (mC (.int 1))) (WU (AD 0) (mC (.int 2))))
  (AQ (As (mOp Jl (mOp FY (mOp Bf (mOp Bf (mOp AU (AD 0) (mC (.int 1))) (mOp FY (mC (.int 7919)) (mOp AU (AD 0) (mC (.int 2))))) (mC (.int 1))) (mC (.int 48271))) (mC (.int 2147483647))) (AM 3))
  (AQ (As (mOp Jl (mOp FY (AD 3) (mOp Bf (mOp JL (AD 3) (mC (.int 1009))) (mC (.int 69621)))) (mC (.int 2147483647))) (AM 3))
  (AQ (As (mOp Jl (mOp FY (AD 3) (mOp Bf (mOp JL (AD 3) (mC (.int 2003))) (mC (.int 40692)))) (mC (.int 2147483399))) (AM 3))
  (Ar (mOp Jl (mOp Bf (mOp FY (AD 3) (mC (.int 48271))) (mOp JL (AD 3) (mC (.int 7)))) (AD 1))))))))
noncomputable def Xx(fA:List D->M D)(fJ:List D->M D):Sl->M (Fl×Sl):=
  (AQ (As (AF fA (AC (AD 0) (AC (mC (.int 10)) AJ))) (AM 3))
  (AQ (sIf (mOr (AR (mOp A3 (AD 2) (mC (.int 1)))) (AR (mOp Ez (AD 3) (mC (.int 3))))) (AQ (sIf (mOr (AR (mOp A3 (AD 1) (AF BE AJ))) (AR (mOp A3 (AF fA (AC (AD 0) (AC (mC (.int 2)) AJ))) (mC (.int 0))))) (Ar (AF BU (AC (mC (.str "num")) (AC (AF fA (AC (AD 0) (AC (mC (.int 10)) AJ))) AJ)))) A1)
  (Ar (AF BU (AC (mC (.str "var")) (AC (mOp AU (AD 1) (AF fA (AC (AD 0) (AC (AF Bq (AC (AD 1) AJ)) AJ)))) AJ))))) A1)
  (AQ (sIf (AR (mOp A3 (AD 3) (mC (.int 3)))) (Ar (AF BU (AC (mC (.str "not")) (AC (AF fJ (AC (AD 0) (AC (AD 1) (AC (mOp Em (AD 2) (mC (.int 1))) AJ)))) AJ)))) A1)
  (AQ (As (mOp AU (AF BE (AC (mC (.str "+")) (AC (mC (.str "-")) (AC (mC (.str "=")) (AC (mC (.str "<")) (AC (mC (.str "and")) (AC (mC (.str "or")) AJ))))))) (mOp Em (AD 3) (mC (.int 4)))) (AM 4))
  (AQ (As (AF fJ (AC (AD 0) (AC (AD 1) (AC (mOp Em (AD 2) (mC (.int 1))) AJ)))) (AM 5))
  (AQ (As (AF fJ (AC (AD 0) (AC (AD 1) (AC (AF Sn (AC (mOp Em (AD 2) (mC (.int 1))) (AC (mC (.int 2)) AJ))) AJ)))) (AM 6))
  (Ar (mOp AU (AF BE (AC (AF BU (AC (AD 4) (AC (AD 5) (AC (AD 6) AJ)))) (AC (AF BU (AC (AD 4) (AC (AD 6) (AC (AD 5) AJ)))) AJ))) (AF fA (AC (AD 0) (AC (mC (.int 2)) AJ)))))))))))
noncomputable def aN(fA:List D->M D)(fJ:List D->M D):Sl->M (Fl×Sl):=
  (AQ (As (AF fA (AC (AD 0) (AC (mC (.int 8)) AJ))) (AM 6))
  (AQ (As (mOp AU (AF BE (AC (mC (.int 1)) (AC (mC (.int 2)) (AC (mC (.int 3)) (AC (mC (.int 5)) AJ))))) (AF fA (AC (AD 0) (AC (mC (.int 4)) AJ)))) (AM 7))
  (AQ (sIf (AR (mOp M7 (AD 4) (mC (.int 9)))) (As (AF Sn (AC (AD 7) (AC (mC (.int 2)) AJ))) (AM 7)) A1)
  (AQ (As (mOp Bf (AD 3) (mOp FY (AF BE (AC (mC (.str "v")) AJ)) (AF NQ (AC (AD 5) AJ)))) (AM 8))
  (AQ (sIf (GH (AR (mOp Ez (AD 6) (mC (.int 2)))) (AR (mOp Cj (AD 1) (AF BE AJ)))) (Ar (AF BU (AC (mC (.str "put")) (AC (mOp AU (AD 1) (AF fA (AC (AD 0) (AC (AF Bq (AC (AD 1) AJ)) AJ)))) (AC (AF fJ (AC (AD 0) (AC (AD 8) (AC (AD 7) AJ)))) AJ))))) A1)
  (AQ (sIf (GH (AR (mOp Ez (AD 6) (mC (.int 4)))) (AR (mOp Cj (AD 2) (AF BE AJ)))) (Ar (AF BU (AC (mC (.str "get")) (AC (mOp AU (AD 3) (AF fA (AC (AD 0) (AC (AF Bq (AC (AD 3) AJ)) AJ)))) (AC (mOp AU (AD 2) (AF fA (AC (AD 0) (AC (AF Bq (AC (AD 2) AJ)) AJ)))) AJ))))) A1)
  (AQ (sIf (AR (mOp Ez (AD 6) (mC (.int 5)))) (Ar (AF BU (AC (mC (.str "let")) (AC (mOp AU (AD 3) (AF fA (AC (AD 0) (AC (AF Bq (AC (AD 3) AJ)) AJ)))) (AC (AF fJ (AC (AD 0) (AC (AD 8) (AC (AD 7) AJ)))) AJ))))) A1)
  (AQ (sIf (AR (mOp A3 (AD 6) (mC (.int 5)))) (Ar (AF BU (AC (mC (.str "unless")) (AC (AF fJ (AC (AD 0) (AC (AD 8) (AC (AD 7) AJ)))) (AC (AF fA (AC (AD 0) (AC (mOp Bf (AD 4) (mC (.int 1))) AJ))) AJ))))) A1)
  (AQ (sIf (AR (mOp A3 (AD 6) (mC (.int 6)))) (Ar (AF BU (AC (mC (.str "jump")) (AC (AF fA (AC (AD 0) (AC (mOp Bf (AD 4) (mC (.int 1))) AJ))) AJ)))) A1)
  (Ar (mOp AU (AF BE (AC (AF BU (AC (mC (.str "tell")) (AC (AF fJ (AC (AD 0) (AC (AD 8) (AC (AD 7) AJ)))) AJ))) (AC (AF BU (AC (mC (.str "done")) AJ)) AJ))) (AF NQ (AC (AD 5) AJ)))))))))))))
noncomputable def OV(fA:List D->M D):Sl->M (Fl×Sl):=
  (AQ (As (mC (.str "")) (AM 2))
  (AQ (Du (Ig (AC (mOp Bf (mC (.int 1)) (AF fA (AC (AD 0) (AC (mC (.int 8)) AJ)))) AJ)) (AM 3) (As (mOp Bf (AD 2) (mOp AU (mC (.str "abcdefghijklmnopqrstuvwxyz")) (AF fA (AC (AD 0) (AC (mC (.int 26)) AJ))))) (AM 2)))
  (AQ (sIf (AR (mOp (Co false) (AD 2) (AD 1))) (As (mC (.str "abcdefgh")) (AM 2)) A1)
  (Ar (AD 2)))))
noncomputable def Sr(fX:List D->M D)(fA:List D->M D)(f9:List D->M D):Sl->M (Fl×Sl):=
  (AQ (As (AF Dq (AC (mC (.str "w")) (AC (mC (.str "r")) (AC (mC (.str "put")) (AC (mC (.str "makes")) (AC (mC (.str "box")) (AC (mC (.str "hand")) (AC (mC (.str "z")) (AC (mC (.str "not")) (AC (mC (.str "v")) (AC (mC (.str "safe")) (AC (mC (.str "x")) AJ)))))))))))) (AM 1))
  (AQ (Ag (BB Oh (AD 1) (AC (mC (.int 6)) (AC (AF fX (AC (AD 0) (AC (AD 1) AJ))) AJ))))
  (AQ (As (AF fA (AC (AD 0) (AC (mC (.int 12)) AJ))) (AM 2))
  (AQ (As (mOp Bf (mSl (AD 1) (CQ (AD 2)) Bp) (mSl (AD 1) Bp (CQ (AD 2)))) (AM 1))
  (AQ (As (mSl (AD 1) Bp (CQ (mOp Bf (mC (.int 2)) (AF fA (AC (AD 0) (AC (mC (.int 3)) AJ)))))) (AM 3))
  (AQ (As (AF Dq AJ) (AM 4))
  (AQ (Du (Ig (AC (AF fA (AC (AD 0) (AC (mC (.int 7)) AJ))) AJ)) (AM 5) (AQ (As (mOp Bf (mC (.int 2)) (AF fA (AC (AD 0) (AC (mC (.int 9)) AJ)))) (AM 6))
  (AQ (As (mOp AU (AF BE (AC (mC (.str "safe")) (AC (mC (.str "steady")) (AC (mC (.str "whole")) AJ)))) (AF fA (AC (AD 0) (AC (mC (.int 3)) AJ)))) (AM 7))
  (Ag (BB FQ (AD 4) (AC (AF BU (AC (mOp AU (AD 1) (mOp Em (mC (.int 11)) (AD 5))) (AC (AD 7) (AC (AD 6) (AC (AF fA (AC (AD 0) (AC (AD 6) AJ))) (AC (mOp AU (AD 3) (AF fA (AC (AD 0) (AC (AF Bq (AC (AD 3) AJ)) AJ)))) AJ)))))) AJ))))))
  (AQ (As (AF Dq AJ) (AM 8))
  (AQ (As (AF fA (AC (AD 0) (AC (mOp FY (mC (.int 9)) (AF Bq (AC (AD 3) AJ))) AJ))) (AM 9))
  (AQ (Du (OZ (AC (AD 3) AJ)) (DT [5,10]) (AQ (As (mOp AU (AF BE (AC (mC (.int 0)) (AC (mC (.int 1)) (AC (mC (.int 3)) (AC (mC (.int 5)) (AC (mC (.int 7)) AJ)))))) (AF fA (AC (AD 0) (AC (mC (.int 5)) AJ)))) (AM 11))
  (AQ (sIf (AR (mOp A3 (AD 5) (AD 9))) (As (mC (.int 60)) (AM 11)) A1)
  (AQ (As (Bi 1 [10] (Ic (AD 4)) (AM 0) (AR (mOp A3 (mOp AU (AD 0) (mC (.int 4))) (AD 1))) (mOp AU (AD 0) (mC (.int 0))) BE) (AM 12))
  (AQ (As (AF Dq (AC (mC (.str "x")) (AC (mC (.str "tell")) (AC (mC (.str "vv")) (AC (mC (.str "if")) AJ))))) (AM 13))
  (AQ (Ag (BB Oh (AD 13) (AC (mC (.int 1)) (AC (AF fX (AC (AD 0) (AC (mOp M9 (AD 13) (AF BE (AC (mC (.str "v")) (AC (mC (.str "not")) (AC (mC (.str "and")) (AC (mC (.str "or")) AJ)))))) AJ))) AJ))))
  (AQ (As (mSl (AD 13) Bp (CQ (mOp Bf (mC (.int 1)) (AF fA (AC (AD 0) (AC (mC (.int 5)) AJ)))))) (AM 13))
  (AQ (As (Bi 1 [4,5,11,12,13,0] (Ig (AC (AD 11) AJ)) (AM 0) Bu (AF f9 (AC (AD 6) (AC (AD 4) (AC (Bi 1 [] (Ic (AD 1)) (AM 0) Bu (mOp AU (AD 0) (mC (.int 0))) BE) (AC (AD 5) (AC (AD 3) (AC (mOp A3 (AD 2) (mC (.int 0))) AJ))))))) BE) (AM 14))
  (Ag (BB FQ (AD 8) (AC (AF BU (AC (AD 10) (AC (mOp AU (AF BE (AC (mC (.int 0)) (AC (mC (.int 1)) (AC (mC (.int 9)) (AC (mC (.int 99)) (AC (mC (.int 400)) AJ)))))) (AF fA (AC (AD 0) (AC (mC (.int 5)) AJ)))) (AC (AF C8 (AC (AD 14) AJ)) AJ)))) AJ)))))))))))
  (AQ (As (mOp Bf (mC (.int 2)) (AF fA (AC (AD 0) (AC (mC (.int 9)) AJ)))) (AM 6))
  (AQ (As (mOp AU (AF BE (AC (mC (.str "safe")) (AC (mC (.str "steady")) (AC (mC (.str "whole")) AJ)))) (AF fA (AC (AD 0) (AC (mC (.int 3)) AJ)))) (AM 7))
  (Ar (AF BU (AC (AD 7) (AC (AD 6) (AC (AF fA (AC (AD 0) (AC (AD 6) AJ))) (AC (AF C8 (AC (AD 4) AJ)) (AC (AF C8 (AC (AD 8) AJ)) AJ)))))))))))))))))))
noncomputable def Hu:List D->M D:=BF .drop 2 2 (Ho)
noncomputable def NY:List D->M D:=BF .all 1 1 (NJ)
noncomputable def BM:List D->M D:=BF .drop 4 2 (Ib)
noncomputable def DR:List D->M D:=BF .drop 4 2 (OV BM)
noncomputable def Dh:Nat->List D->M D
 |0=>λ_=>BO
 |n+1=>BF .drop 7 3 (Xx BM (Dh n))
noncomputable def LI:List D->M D:=BF .drop 9 6 (aN BM (Dh 6))
noncomputable def JW:List D->M D:=BF .drop 15 1 (Sr DR BM LI)
noncomputable def CN:List D->M D:=BF .drop 3 3 (K7)
noncomputable def B4:List D->M D:=BF .drop 2 2 (aM)
noncomputable def DP:List D->M D:=BF .drop 3 3 (K6)
noncomputable def CZ:List D->M D:=BF .drop 3 3 (Gg B4 DP)
noncomputable def CY:List D->M D:=BF .drop 1 1 (MG)
noncomputable def EZ:List D->M D:=BF .drop 1 1 (Ia)
noncomputable def EE:List D->M D:=BF .drop 2 1 (HR CN B4 CY CZ EZ)
noncomputable def ED:List D->M D:=BF .drop 2 1 (HQ CN B4 CY DP EZ)
noncomputable def DI:Nat->List D->M D
 |0=>λ_=>BO
 |n+1=>BF .drop 3 2 (Ck (DI n) DP CY)
noncomputable def Ee:List D->M D:=BF .drop 3 3 (FZ (DI 6) DP CY)
noncomputable def EY:List D->M D:=BF .drop 5 2 (CF CN B4 Ee)
noncomputable def Ca:List D->M D:=BF .drop 2 2 (Eo B4)
noncomputable def Bj:Nat->List D->M D
 |0=>λ_=>BO
 |n+1=>BF .frz 3 1 (B0 (Bj n))
noncomputable def De:List D->M D:=BF .frz 4 1 (BT (Bj 6))
noncomputable def Cu:List D->M D:=BF .drop 3 2 (FC De B4)
noncomputable def EX:List D->M D:=BF .drop 4 3 (NI EY Ca Cu B4)
noncomputable def Eu:List D->M D:=BF .drop 6 1 (Gh CN B4 CZ EE ED EX)
end K1
namespace L2
open PySem PySem.Spec PyProof.Rows Sem
end L2
namespace L2
open PySem PySem.Spec PyProof.Rows
end L2
namespace Mi
open PySem L2
section
variable{K:KW}{ι:Nat->Addr}{k:Nat}{H:Hp}
theorem ClsAt.eq(a:ClsAt K c C)(b:ClsAt K c C'):C=C':=by
 unfold ClsAt at a b;rw[a] at b;cases b;rfl
theorem FVs.lookup:∀{l:List (Str×D)} {r:List (Str×V)} {d:D},FVs K ι k H l r->l.lookup f=some d->∃v,r.lookup f=some v/\Is K ι k H d v
 |[],_,_,_,e=>by cases e
 |(y,d0)::l,_,d,h,e=>by
  obtain⟨v,r',rfl,h1,h2⟩:=h;rw[List.lookup_cons] at e ⊢;cases q:f==y with
  |true=>rw[q] at e;cases e;exact⟨v,rfl,h1⟩
  |false=>rw[q] at e;exact FVs.lookup h2 e
theorem FVs.none:∀{l:List (Str×D)} {r:List (Str×V)},FVs K ι k H l r->l.lookup f=none->r.lookup f=none
 |[],_,h,_=>by cases h;rfl
 |(y,d0)::l,_,h,e=>by
  obtain⟨v,r',rfl,h1,h2⟩:=h;rw[List.lookup_cons] at e ⊢;cases q:f==y with
  |true=>rw[q] at e;cases e
  |false=>rw[q] at e;exact FVs.none h2 e
theorem FVs.len:∀{l:List (Str×D)} {r:List (Str×V)},FVs K ι k H l r->r.length=l.length
 |[],_,h=>by cases h;rfl
 |(y,d0)::l,_,h=>by
  obtain⟨v,r',rfl,h1,h2⟩:=h;simp[FVs.len h2]
noncomputable def GF(f:Str)(d:D):List (Str×D)->List (Str×D)
 |[]=>[(f,d)]
 |(y,x)::l=>if y=f then (y,d)::l else (y,x)::GF f d l
theorem FVs.put(i:Is K ι k H d v):∀{l:List (Str×D)} {r:List (Str×V)},FVs K ι k H l r->FVs K ι k H (GF f d l) (Fz f v r)
 |[],_,h=>by cases h;exact⟨v,[],rfl,i,rfl⟩
 |(y,d0)::l,_,h=>by
  obtain⟨w,r',rfl,h1,h2⟩:=h;unfold GF Fz;by_cases e:y=f
  ·rw[if_pos e,if_pos e];exact⟨v,r',rfl,i,h2⟩
  ·rw[if_neg e,if_neg e];exact⟨w,_,rfl,h1,FVs.put i h2⟩
end
noncomputable def LTq(c:Str):D->M (Nat×List (Str×D))
 | .ref n=>λμ=>match μ[n]? with
  |some (.ins c' l)=>if c'=c then some ((n,l),μ) else none
  |_=>none
 |_=>BO
theorem GA(R:RelH K ι μ H)(i:Is K ι μ.length H d v)(e:LTq c d μ=some (r,μ')):
  μ'=μ/\d=.ref r.1/\μ[r.1]?=some (.ins c r.2)/\v=.ref (ι r.1)/\∃C dx fs,H (ι r.1)=some (.ins C dx fs)/\ClsAt K c C/\H dx=some (.own (ι r.1))/\FVs K ι μ.length H r.2 fs:=by
 cases d with
 |ref n=>
  have e1:(match μ[n]? with|some (.ins c' l)=>if c'=c then some ((n,l),μ) else none|_=>none)=some (r,μ'):=e;clear e;split at e1
  ·rename_i c' l hq;split at e1
   ·rename_i hc;cases e1;rw[hc] at hq;unfold Is at i;obtain⟨u,h1,C,dx,fs,rfl,h2,h3,h4⟩:=R.obj n _ hq;exact⟨rfl,rfl,hq,i.2,C,dx,fs,h1,h2,h3,h4⟩
   ·cases e1
  ·cases e1
 |_=>cases e
structure CA(K:PySem.W.Frag)(c:Str)(C:Addr):Prop where
 at_:ClsAt K c C
 cl:Cls K C
noncomputable def Et(c f:Str)(d:D):M D:=bnd (LTq c d) λr=>λμ=>(r.2.lookup f).map λx=>(x,μ)
noncomputable def Jk(c f:Str)(mo mv:Sl->M D):Sl->M (Fl×Sl):=λτ=>bnd (mv τ) λy=>bnd (mo τ) λx=>bnd (LTq c x) λr=>λμ=>if r.2.length<1000 then some ((.next,τ),μ.set r.1 (.ins c (GF f y r.2))) else none
noncomputable def K4(c:Str)(φ:List D->M D):List D->M D:=λds μ=>match φ (.ref μ.length::ds) (μ++[.ins c []]) with
 |some (.non,μ')=>some (.ref μ.length,μ')
 |_=>none
noncomputable def F3(c m:Str)(φ:List D->M D)(mo:Sl->M D)(ma:Sl->M (List D)):Sl->M D:=λτ=>bnd (mo τ) λx=>bnd (LTq c x) λr=>if r.2.lookup m=none then bnd (ma τ) λds=>φ (x::ds) else BO
structure Ini(P:Program)(w:World)(K:PySem.W.Frag)(mg:Str->Option Value)(base:Heap)(c:Str)(ps:List Str)(k:Nat)(φ:List D->M D):Prop where
 len:∀ds μ r,φ ds μ=some r->ds.length=ps.length
 ex:∃C f fd,ClsAt K c C/\mg c=some (.ref C)/\Mk K C f/\FnOk P w K mg base CX0 k f fd ps (spM ⟨K,w⟩ ps.length φ)/\Binds K fd ps []
structure Mth(P:Program)(w:World)(K:PySem.W.Frag)(mg:Str->Option Value)(base:Heap)(c m:Str)(ps:List Str)(k:Nat)(φ:List D->M D):Prop where
 len:∀ds μ r,φ ds μ=some r->ds.length=ps.length
 ex:∃C f fd,CA K c C/\WZ K C m f/\FnOk P w K mg base CX0 k f fd ps (spM ⟨K,w⟩ ps.length φ)/\Binds K fd ps []
section
variable{X:Cx}{e o value:Expr}{es:List Expr}{pos pos' apos:Pos}{c f:Str}{C:Addr}
theorem C9(ca:CA X.kw c C)(na:NoAttr X.kw C f)(he:RE X e m)(hb:attributeBase e f X.env (eval e X.env)=eval e X.env:=by rfl):RE X (.Attribute e f pos) (mUn (Et c f) m):=RE.wk (Zw he.pe hb) λσ H Q h=>by
 obtain⟨ι,μ,τ,d,μ',R,S,ev,q⟩:=h;obtain⟨x,μ1,e1,e2⟩:=AI ev;obtain⟨r,μ2,e3,e4⟩:=AI e2;refine⟨ι,μ,τ,x,μ1,R,S,e1,λι1 H1 E1 R1 v1 i1=>?_⟩;obtain⟨hm,_,g1,rfl,C',dx,fs,g2,g3,g4,g5⟩:=GA R1 i1 e3;subst hm;cases ca.at_.eq g3;cases hl:r.2.lookup f with
 |none=>rw[hl] at e4;cases e4
 |some x0=>
  rw[hl] at e4;cases e4;obtain⟨v,hv,iv⟩:=g5.lookup hl;exact⟨_,C,dx,fs,v,rfl,g2,ca.cl,na,hv,q ι1 H1 E1 R1 v iv⟩
theorem Kl(ca:CA X.kw c C)(na:NoAttr X.kw C f)(ho:RE X o mo)(hv:RE X value mv)(hs:swapsWith value (some (.Attribute o f pos')) pos.line X.env=pure false:=by rfl):RS X (.Assign [.Attribute o f pos'] value pos) (Jk c f mo mv):=RS.wk (Zi ho.pe hv.pe hs) λDn σ H h=>by
 obtain⟨ι,μ,τ,fl,τ',μ',R,S,ev,q⟩:=h;obtain⟨y,μ1,e1,ee1⟩:=AI ev;obtain⟨x,μ2,e2,ee2⟩:=AI ee1;obtain⟨r,μ3,e3,ee3⟩:=AI ee2;refine⟨ι,μ,τ,y,μ1,R,S,e1,λι1 H1 E1 R1 v1 i1=>⟨ι1,μ1,τ,x,μ2,R1,S.ext E1,e2,λι2 H2 E2 R2 v2 i2=>?_⟩⟩;obtain⟨hm,_,g1,rfl,C',dx,fs,g2,g3,g4,g5⟩:=GA R2 i2 e3;subst hm;cases ca.at_.eq g3;have ee3:(if r.2.length<1000 then some ((Fl.next,τ),List.set μ3 r.1 (MO.ins c (GF f y r.2))) else none)=some ((fl,τ'),μ'):=ee3;split at ee3
 ·rename_i hl;cases ee3;have hlt:r.1<List.length μ3:=(AAT.mp g1).1;obtain⟨E4,R4⟩:=R2.changed (m:=.ins c (GF f y r.2)) (o:=.ins C dx (Fz f v1 fs)) hlt ⟨C,dx,_,rfl,ca.at_,g4,FVs.put (i1.ext E2) g5⟩;exact⟨_,C,dx,fs,rfl,g2,ca.cl,na,by rw[g5.len];exact hl,q ι2 _ ((E1.trans E2).trans E4) R4 σ (S.ext ((E1.trans E2).trans E4))⟩
 ·cases ee3
theorem Qw(F:Mth X.prog X.w X.kw X.mg X.base c mm ps k φ)(hr:Room j X.A)(ho:RE X o mo)(ha:RA X (e::es) ma)(hkj:k<=j:=by decide)
  (hst:starEach (e::es) X.env=(false,eval e X.env)::starEach es X.env:=by exact BH rfl) (hpl:(backTo pos (starEach es X.env)).any (·.1)=false:=by exact BY rfl)
  (ht:eval (.Call (.Attribute o mm apos) (e::es) [] pos) X.env=(do
   let ov ←eval o X.env
   standAt apos.atName
   let (f,first) ←holding [ov] (getMethod ov mm pl)
   callWith pos f first (backTo pos (starEach (e::es) X.env)) (backToKw pos (keywordEach [] X.env))):=by rfl):RE X (.Call (.Attribute o mm apos) (e::es) [] pos) (F3 c mm φ mo ma):=by
 obtain⟨len,C,f,fd,ca,M,F,hb⟩:=F;refine RE.wk (Xd (pl:=pl) ho.pe ca.cl M F (hr.mono hkj) hb .nil Q9 ha.pe hst hpl ht) λσ H Q h=>?_;obtain⟨ι,μ,τ,d,μ',R,S,ev,q⟩:=h;obtain⟨x,μ1,e1,e2⟩:=AI ev;obtain⟨r,μ2,e3,e4⟩:=AI e2;refine⟨ι,μ,τ,x,μ1,R,S,e1,λι1 H1 E1 R1 v1 i1=>?_⟩;obtain⟨hm,ex,g1,rfl,C',dx,fs,g2,g3,g4,g5⟩:=GA R1 i1 e3;subst hm;cases ca.at_.eq g3;split at e4
 ·rename_i hl;obtain⟨ds,μ3,e5,e6⟩:=AI e4;refine⟨_,dx,fs,rfl,g2,g5.none hl,ι1,μ2,τ,ds,μ3,R1,S.ext E1,e5,λι2 H2 E2 R2 vs i2=>?_⟩;have hlen:=len _ _ _ e6;exact⟨by rw[AAH,AAG,List.length_nil,Nat.add_zero,i2.length,←hlen];rfl,ι2,_,_,_,_,R2,.cons (i1.ext E2) (by rw[AAY];exact i2),e6,λι3 H3 E3 R3 v iv=>q ι3 H3 ((E1.trans E2).trans E3) R3 v iv⟩
 ·cases e4
end
noncomputable def NAs(K:PySem.W.Frag)(C:Addr):List Str->Prop
 |[]=>True
 |x::r=>PySem.W.findIn K (.ref C) x=some none/\NAs K C r
theorem NAs.all:∀{fl:List Str},NAs K C fl->∀x∈fl,NoAttr K C x
 |[],_,_,h=>nomatch h
 |y::r,n,x,h=>by
  rcases AAI.mp h with rfl|h
  ·exact n.1
  ·exact NAs.all n.2 x h
structure Dc(K:PySem.W.Frag)(c:Str)(fl:List Str)(C:Addr):Prop where
 ca:CA K c C
 na:∀x∈fl,NoAttr K C x
structure Di(K:PySem.W.Frag)(c qual:Str)(st:Stmt)(C f:Addr)(fd:FuncData):Prop where
 at_:ClsAt K c C
 mak:Mk K C f
 F:Fun K "__init__" qual st f fd
structure Dm(K:PySem.W.Frag)(c m qual:Str)(st:Stmt)(C f:Addr)(fd:FuncData):Prop where
 ca:CA K c C
 me:WZ K C m f
 F:Fun K m qual st f fd
section
variable{K:PySem.W.Frag}{c qual:Str}{st:Stmt}{C f:Addr}{fl:List Str}{oc:Value}{od an:Option Addr}{osl:Array (Option Value)}{kV doc pm cdv ct:Value}
theorem dY(a:PySem.W.nsIn K mainGlobals c=some (some (.ref C)))(pg:PySem.W.plainGet K C Str.empty=true)(hd:PySem.W.hasDictIn K C=true)(po:PySem.W.plainOver K C=true)(sa:PySem.W.findIn K (.ref C) "__setattr__" = some (some (.builtin "object.__setattr__")))(na:NAs K C fl):∃C,Dc K c fl C:=
 ⟨C,⟨a,⟨pg,hd,po,sa⟩⟩,na.all⟩
theorem dU(a:PySem.W.nsIn K mainGlobals c=some (some (.ref C)))(mk:PySem.W.makesIn K C=true)(ini:PySem.W.findIn K (.ref C) "__init__" = some (some (.ref f)))(fn:PySem.W.isFn K (.ref f)=true)(kc:PySem.W.keepIn K (.ref C)=true)
  (l:K.lookup f=some ⟨oc,od,.func (PySem.W.fnOf "__init__" qual (F6 st) (CU st) (AN st) .none kV doc pm an cdv ct),osl⟩) (cd:PySem.W.codeIn K cdv qual=true) (k:PySem.W.keepIn K (.ref f)=true):∃C f fd,Di K c qual st C f fd:=⟨C,f,_,a,⟨mk,ini,fn,kc⟩,P7 l cd k⟩
end
noncomputable def Ri(st:Stmt)(j:Nat):Stmt:=match st with
 | .ClassDef _ _ _ body _ _ _ _ _ _ _=>body.getD j (.Pass ⟨0,0,0,0⟩)
 |_=>.Pass ⟨0,0,0,0⟩
end Mi
namespace Pk
open PySem PySem.Spec PyProof.Rows L2 Mi PySem.MeetsSeq PySem.SeqAt
end Pk
namespace Mi
open PySem L2 Pk
end Mi
namespace Mi
open PySem L2
section
variable{K:PySem.W.Frag}{c m qual:Str}{st:Stmt}{C f:Addr}{oc:Value}{od an:Option Addr}{osl:Array (Option Value)}{kV doc pm cdv ct:Value}
theorem dO(a:PySem.W.nsIn K mainGlobals c=some (some (.ref C)))(pg:PySem.W.plainGet K C Str.empty=true)(hd:PySem.W.hasDictIn K C=true)(po:PySem.W.plainOver K C=true)(sa:PySem.W.findIn K (.ref C) "__setattr__" = some (some (.builtin "object.__setattr__")))
  (me:PySem.W.findIn K (.ref C) m=some (some (.ref f))) (fn:PySem.W.isFn K (.ref f)=true)
  (l:K.lookup f=some ⟨oc,od,.func (PySem.W.fnOf m qual (F6 st) (CU st) (AN st) .none kV doc pm an cdv ct),osl⟩) (cd:PySem.W.codeIn K cdv qual=true) (k:PySem.W.keepIn K (.ref f)=true):∃C f fd,Dm K c m qual st C f fd:=⟨C,f,_,⟨a,⟨pg,hd,po,sa⟩⟩,⟨me,fn,k⟩,P7 l cd k⟩
end
noncomputable def ZE:D->M Str
 | .str x=>ret x
 |_=>BO
noncomputable def Dy(g:D->List D->M D)(mo:Sl->M D)(ma:Sl->M (List D)):Sl->M D:=λτ=>bnd (mo τ) λx=>bnd (ZE x) λy=>bnd (ma τ) λds=>g (.str y) ds
section
variable{X:Cx}{o e:Expr}{es:List Expr}{apos cpos:Pos}
theorem DA{name:Str}{id:String}(slot:Slot "str" name id)(hty:typeOf (.builtin id)=pure (.type "method_descriptor"))(hm:MtR X id (rMM X.kw g))(ho:RE X o mo)(ha:RA X (e::es) ma)
  (hbase:attributeBase o name X.env (eval o X.env)=eval o X.env:=by rfl)
  (hfew:((backTo cpos (starEach (e::es) X.env)).all (λx=>!x.1)&&(backToKw cpos (keywordEach [] X.env)).all (λx=>x.1.isSome)
   && decide ((e::es).length+([]:List Keyword).length+(if ([]:List Keyword).isEmpty then 0 else 1)<30))=true:=by rfl)
  (hline:(apos.endLine==cpos.line)=true:=by rfl) (hs:starEach (e::es) X.env=(false,eval e X.env)::starEach es X.env:=by exact BH rfl) (hplain:(backTo cpos (starEach es X.env)).any (·.1)=false:=by exact BY rfl) :
  RE X (.Call (.Attribute o name apos) (e::es) [] cpos) (Dy g mo ma):=RE.wk (Yk PySem.F.plainAttrs_str slot hty hm ho.pe ha.pe hbase hfew hline hs hplain) λσ H Q h=>by
 obtain⟨ι,μ,τ,d,μ',R,S,ev,q⟩:=h;obtain⟨x,μ1,e1,ee1⟩:=AI ev;obtain⟨y,μ2,e2,ee2⟩:=AI ee1;obtain⟨ds,μ3,e3,ee3⟩:=AI ee2;have hy:x=.str y/\μ2=μ1:=by
  cases x with
  |str z=>cases e2;exact⟨rfl,rfl⟩
  |_=>cases e2
 obtain⟨rfl,rfl⟩:=hy;refine⟨ι,μ,τ,.str y,_,R,S,e1,λι1 H1 E1 R1 v1 i1=>⟨?_,ι1,_,τ,ds,μ3,R1,S.ext E1,e3,λι2 H2 E2 R2 vs i2=>?_⟩⟩
 ·cases B1 i1;rfl
 ·exact⟨ι2,μ3,.str y,ds,d,μ',R2,i1.ext E2,i2,ee3,λι3 H3 E3 R3=>q ι3 H3 ((E1.trans E2).trans E3) R3⟩
end
end Mi
namespace Mi
open PySem L2 PySem.Builtin.Str
noncomputable def Hc:D->List D->M D
 | .str x,[.str y]=>λμ=>if y.length≠0/\x.length+2<=sizeLine/\(Txt.split x y).length<=sizeLine then some (.lst ((Txt.split x y).map D.str),μ) else none
 |_,_=>BO
noncomputable def DY:D->List D->M D
 | .str x,[d]=>bnd (Bl d) λds=>λμ=>match GC ds with
  |some ts=>if JoinOk x ts=true then some (.str (Txt.join x ts),μ) else none
  |none=>none
 |_,_=>BO
noncomputable def IR:List D->M D
 |[.int i]=>λμ=>if i.natAbs.log2<1920 then some (.str (Str.ofString (toString i)),μ) else none
 |[.str x]=>ret (.str x)
 |_=>BO
noncomputable def Og:List D->M D
 |[.str x]=>λμ=>if x.length<=640 then (PySem.intText? x).map λn=>(.int n,μ) else none
 |ds=>NQ ds
section
variable{prog:Program}{w:World}{A:Around}{E:Value->Shared->Prop}{s:Shared}{Q:Value->Shared->Prop}
theorem made_texts : ∀ (ts : List Str) (k : Nat), ∃ l : List (Str × Tok), strsFrom k ts = strValues l ∧ ts = l.map Prod.fst
  | [], _ => ⟨[], rfl, rfl⟩
  | c :: ts, k => by
    obtain ⟨l, e, e'⟩ := made_texts ts (k + 1)
    exact ⟨(c, k) :: l, congrArg (Value.str c k :: ·) e, congrArg (c :: ·) e'⟩
noncomputable def New (Q : Value → Shared → Prop) (s : Shared) (ts : List Str) : Prop := ∀ (l : List (Str × Tok)) (k : Nat), ts = l.map Prod.fst → Q (.ref s.heap.objs.size) { s with heap := s.heap.push ⟨.type "list", none, .seq (strValues l).toArray, #[]⟩, toks := k }
theorem SO {x y : Str} {t u : Tok} (hy : y.length ≠ 0) (hz : x.length + 2 ≤ sizeLine) (q : New Q s (Txt.split x y)) : wpAny (model prog w) A (call (.builtin "str.split") [.str x t, .str y u]) Q E s := by
  have hy := beq_false_of_ne hy
  have all : ∃ S : Spec, Meets (Builtin.«str.split» ⟨[.str x t, .str y u], []⟩) S ∧ S A (wants Q E) s := by
    unfold Txt.split at q
    split at q
    · exact ⟨_, meets_str_split_cannot_occur _ _ _ _ (by assumption), q [(x, t)] s.toks rfl⟩
    · split at q
      · exact ⟨_, meets_str_split_not_found _ _ _ _ (Bool.eq_false_iff.mpr (by assumption)) hy (by assumption), q [(x, t)] s.toks rfl⟩
      · refine ⟨_, meets_str_split_sep _ _ _ _ (Bool.eq_false_iff.mpr (by assumption)) hy (Bool.eq_false_iff.mpr (by assumption)) (Nat.le_of_add_right_le hz) ?_, ?_⟩
        · have := StrLaws.occ_length_le x y 0 x.length (x.length + 1)
          simp only [PyProof.Rows.len_partsBetween]
          omega
        · obtain ⟨l, e, e'⟩ := made_texts (partsBetween x (occurrences x y 0 x.length (x.length + 1)) y.length) s.toks
          rw [e]
          exact q l _ e'
  obtain ⟨S, m, r⟩ := all
  exact call_meets F.slot_str_split (typeIs_str _ _ _) F.entry_str_split (F.args_str_split_2 _ _) m r
theorem KY:∀{ts:List Str} {us:List Value},Vals (ts.map V.str) us->∃l:List (Str×Tok),us=strValues l/\l.map (·.1)=ts
 |[],_,r=>by cases r;exact⟨[],rfl,rfl⟩
 |x::ts,_,r=>by
  rw[AAW] at r;cases r with
  |cons a r=>
   obtain⟨t,rfl⟩:=a;obtain⟨l,rfl,e⟩:=KY r;exact⟨(x,t)::l,rfl,by rw[AAW,e]⟩
theorem KM:∀(l:List (Str×Tok)),Vals ((l.map (·.1)).map V.str) (strValues l)
 |[]=>.nil
 |(x,t)::l=>.cons ⟨t,rfl⟩ (KM l)
end
section
variable{X:Cx}
theorem MK:∀(ts:List Str),IsL K ι k H (ts.map D.str) (ts.map V.str)
 |[]=>.nil
 |x::ts=>.cons (ofS x) (MK ts)
theorem RK:MtR X "str.split" (rMM X.kw Hc):=λpins s σ H x xs v us Q I rx rs h=>by
 obtain⟨ι,μ,a,as,d,μ',R,ia,ib,ev,q⟩:=h;unfold Hc at ev;split at ev
 ·rename_i x1 y1;split at ev
  ·rename_i hc;cases ev;cases B1 ia;obtain⟨v2,rfl,i2⟩:=Es ib;cases B1 i2;obtain⟨t,rfl⟩:=rx;obtain⟨u,rfl,ru⟩:=EQ rs;obtain⟨t2,rfl⟩:=ru;refine SO hc.1 hc.2.1 λl k el=>?_;have el:l.map (·.1)=_:=el.symm;have hv:=KM l;rw[el] at hv;have hl:((Txt.split x1 y1).map V.str).length<=sizeLine:=by rw[AAF];exact hc.2.2
   exact⟨.ref _,_,I.lnew hv hl,rfl,Yp R (MK _) q _ I.fresh⟩
  ·cases ev
 ·cases ev
theorem Ge:MtR X "str.join" (rMM X.kw DY):=λpins s σ H x xs v us Q I rx rs h=>by
 obtain⟨ι,μ,a,as,d,μ',R,ia,ib,ev,q⟩:=h;unfold DY at ev;split at ev
 ·rename_i x1 d1;obtain⟨ds,μ1,e1,e2⟩:=AI ev;cases B1 ia;obtain⟨v2,rfl,i2⟩:=Es ib;obtain⟨hm,p,vs,rfl,hs,hv⟩:=HB R i2 e1;subst hm;split at e2
  ·rename_i ts hts;split at e2
   ·rename_i hok;cases e2;obtain⟨t,rfl⟩:=rx;obtain⟨u,rfl,ru⟩:=EQ rs;cases ru;have ek:=Kb hv hts;subst ek;have fin:∀t' k,EP X pins σ Q (.str (Txt.join x1 ts) t') { s with toks:=k }:=λt' k=>⟨.str _,H,I.tok _,⟨_,rfl⟩,q ι H R.ext0 R _ (ofS _)⟩;rcases hs with hs|hs
    ·obtain⟨its,rv,pl,_⟩:=I.list hs;obtain⟨l,rfl,el⟩:=KY rv;exact SC.join pl.isList el hok fin
    ·obtain⟨its,rv,pl,_⟩:=I.tuple hs;obtain⟨l,rfl,el⟩:=KY rv;obtain⟨o,ho,hc,n,hd⟩:=pl;subst el;have hk:tooLong ((l.map (·.1)).toArray.foldl (·+·.length+x1.length) 0)=false:=by
      unfold JoinOk at hok;simpa using hok
     exact call_meets F.slot_str_join (typeIs_str _ _ _) F.entry_str_join (F.args_str_join_2 _ _) (meets_str_join_tuple x1 t p l hk) ⟨⟨o,n,ho,hc,hd⟩,post_join l ⟨joinFit_length hk,fin⟩⟩
   ·cases e2
  ·cases e2
 ·cases ev
theorem HV:Cd X (.type "str") (rMA X.kw IR):=λpins s σ H xs us Q I r h=>by
 obtain⟨ι,μ,as,d,μ',R,ia,e,q⟩:=h;unfold IR at e;split at e
 ·split at e
  ·rename_i hl;obtain⟨v,rfl,i1⟩:=Es ia;cases e;cases CC i1;exact Nd pins s σ H _ us Q I r ⟨_,rfl,hl,q ι H R.ext0 R _ (ofS _)⟩
  ·cases e
 ·obtain⟨v,rfl,i1⟩:=Es ia;cases e;cases B1 i1;obtain⟨u,rfl,t,rfl⟩:=EQ r;exact PySem.P.str_of_str ⟨.str _,H,I,⟨_,rfl⟩,q ι H R.ext0 R _ (ofS _)⟩
 ·cases e
theorem WN:Cd X (.type "int") (rMA X.kw Og):=λpins s σ H xs us Q I r h=>by
 obtain⟨ι,μ,as,d,μ',R,ia,e,q⟩:=h;unfold Og at e;split at e
 ·rename_i x;obtain⟨v,rfl,i1⟩:=Es ia;cases B1 i1;obtain⟨u,rfl,t,rfl⟩:=EQ r;split at e
  ·rename_i hl;cases hn:PySem.intText? x with
   |none=>rw[hn] at e;cases e
   |some n=>
    rw[hn] at e;cases e;exact PySem.W.KIN.call_text hn hl ⟨.int _,H,I.tok _,⟨_,rfl⟩,q ι H R.ext0 R _ (ofI _)⟩
  ·cases e
 ·exact WO pins s σ H xs us Q I r ⟨ι,μ,as,d,μ',R,ia,e,q⟩
end
end Mi
namespace L2
open PySem PySem.Spec PyProof.Rows
inductive Sk where
 |t|l
namespace Sk
def sq(k:Sk)(K:PySem.W.Frag)(H:Hp)(a:Addr)(xs:List V):Prop:=match k with
 | .t=>SqT K H a xs
 | .l=>SqL K H a xs
def nm(k:Sk):String:=match k with
 | .t => "tuple_iterator"
 | .l => "list_iterator"
noncomputable def ob(k:Sk)(a:Addr):Obj:={ cls:=.type k.nm,data:=.fields #[.ref a,.int 0 0] }
def it(k:Sk)(h:Heap)(i a:Addr)(n:Nat):Prop:=∃o,h.get? i=some o/\o.cls=.type k.nm/\o.data=.fields #[.ref a,.int n 0]
def cn(k:Sk)(h:Heap)(a:Addr)(xs:Array Value):Prop:=match k with
 | .t=>h.IsTuple a xs
 | .l=>h.IsList a xs
variable{k:Sk}{a i:Addr}{h h':Heap}{n:Nat}{xs:Array Value}
theorem it.keep(x:k.it h i a n)(q:∀o,h.get? i=some o->h'.get? i=some o):k.it h' i a n:=by
 obtain⟨o,e,r⟩:=x;exact⟨o,q o e,r⟩
theorem cn.keep(x:k.cn h a xs)(q:∀o,h.get? a=some o->h'.get? a=some o):k.cn h' a xs:=by
 cases k with
 |t=>obtain⟨o,e,r⟩:=x;exact⟨o,q o e,r⟩
 |l=>obtain⟨o,e,r⟩:=x;exact⟨o,q o e,r⟩
theorem cn.lt(x:k.cn h a xs):a<h.objs.size:=by
 cases k with
 |t=>obtain⟨o,e,_⟩:=x;exact Heap.lt_size e
 |l=>obtain⟨o,e,_⟩:=x;exact Heap.lt_size e
theorem into(I:Inv X pins σ H s)(c:k.sq X.K H a vs):∃its,Vals vs its/\k.cn s.heap a its.toArray:=by
 cases k with
 |t=>obtain⟨its,r,p,_⟩:=I.tuple c;exact⟨its,r,p⟩
 |l=>obtain⟨its,r,p,_⟩:=I.list c;exact⟨its,r,p.isList⟩
theorem iter(x:k.cn s.heap a xs)(q:Q (.ref s.heap.objs.size) { s with heap:=s.heap.push (k.ob a) }):wpAny (model prog w) A (pyIter (.ref a)) Q E s:=by
 cases k with
 |t=>exact wpAny_pyIter_tuple x q
 |l=>exact wpAny_pyIter_list x q
theorem draws(hA:A.handled=none)(i a:Addr)(hn:a≠i)(xs:Array Value):Draws P w A i [i,a] xs.size (λj v=>xs[j]?=some v) (λj h=>k.it h i a j/\k.cn h a xs):=by
 cases k with
 |t=>exact G7 hA i a hn xs
 |l=>exact Draws.list hA i a hn xs
end Sk
theorem Sk.inj{k:Sk}{X:Cx}{pins:List (Addr×Obj)}{σ:St}(I:Inv X pins σ H s)(x:k.sq X.K H a xs)(y:k.sq X.K H a ys):xs=ys:=by
 cases k with
 |t=>exact I.tuple_inj x y
 |l=>exact I.list_inj x y
noncomputable def ItZ(K:PySem.W.Frag)(k1 k2:Sk)(a b:Addr):It:=⟨λi H=>∃xs ys,k1.sq K H a xs/\k2.sq K H b ys/\ys.length=xs.length/\i<xs.length,λi H v H'=>∃T src,H T=none/\v=.ref T/\H'=upd H T (.tup src)/\∀xs ys,k1.sq K H a xs->k2.sq K H b ys->src=Jv xs ys i,λi H=>∃xs ys,k1.sq K H a xs/\k2.sq K H b ys/\ys.length=xs.length/\i=xs.length⟩
theorem SJ{P:Program}{w:World}{K:PySem.W.Frag}(k1 k2:Sk)(a b z TI TO i1 i2:Addr)(ap:Jc z TI TO i1 i2 [i1,a] [i2,b])(h1:a≠i1)(h2:b≠i2):
  Jd P w K (.Tuple es k0 pos) (ItZ K k1 k2 a b) [z,TI,TO,i1,i2] z (λi h=>h.get? z=some (DJ TI TO .none)/\TwoAt h TI (.ref i1) (.ref i2)/\(∃c d,TwoAt h TO c d)/\k1.it h i1 a i/\k2.it h i2 b i):=by
 have W:∀(A:Around) (hA:A.handled=none) (xs ys:List V) (its jts:List Value),Vals xs its->Vals ys jts->ys.length=xs.length->_:=λA hA xs ys its jts r r2 hl=>by
  have l1:its.toArray.size=xs.length:=by rw[List.size_toArray];exact r.length.symm
  have l2:jts.toArray.size=xs.length:=by rw[List.size_toArray,←hl];exact r2.length.symm
  have D1:=Sk.draws (k:=k1) (P:=P) (w:=w) (A:=A.in1) hA i1 a h1 its.toArray;have D2:=Sk.draws (k:=k2) (P:=P) (w:=w) (A:=A.in1) hA i2 b h2 jts.toArray;rw[l1] at D1;rw[l2] at D2;exact Lq hA ap D1 D2
 refine⟨AAP,λi h st=>?obj,λi h h' st k=>?keep,?item,?done,λA i s Q E st h=>GL st.1 h⟩
 case obj=>
  intro c hc;obtain⟨a1,⟨n1,a2⟩,⟨c0,d0,n2,a3⟩,⟨o4,a4,_,d4⟩,⟨o5,a5,_,d5⟩⟩:=st;have hc':c=z∨c=TI∨c=TO∨c=i1∨c=i2:=by simpa using hc
  rcases hc' with e|e|e|e|e<;>subst e
  ·exact⟨_,a1,λv q=>by cases q⟩
  ·exact⟨_,a2,λv q=>by cases q⟩
  ·exact⟨_,a3,λv q=>by cases q⟩
  ·exact⟨_,a4,λv q=>by rw[d4] at q;cases q⟩
  ·exact⟨_,a5,λv q=>by rw[d5] at q;cases q⟩
 case keep=>
  obtain⟨a1,a2,⟨c0,d0,a3⟩,a4,a5⟩:=st;exact⟨k z (by simp) _ a1,a2.keep λo e=>k TI (by simp) o e,⟨c0,d0,a3.keep λo e=>k TO (by simp) o e⟩,a4.keep (k i1 (by simp)),a5.keep (k i2 (by simp))⟩
 case item=>
  intro X hP hw hK hc i pins s σ H E I hf st hg;subst hP hw hK;obtain⟨xs,ys,c1,c2,hl,hi⟩:=hg;obtain⟨a1,a2,a3,a4,a5⟩:=st;obtain⟨its,r,p⟩:=Sk.into I c1;obtain⟨jts,r2,p2⟩:=Sk.into I c2;have W':=W X.A (I.ok.hd hc) xs ys its jts r r2 hl;refine W'.item i s _ _ hi ⟨a1,a2,a3,⟨a4,p⟩,⟨a5,p2⟩⟩ λT vals h' tk hp hT ht hm kk=>⟨_,rfl,?_⟩;have I1:Inv X pins σ H { s with heap:=h',toks:=tk }:=I.turnedL kk hf;refine W'.go es k0 pos i T _ _ _ hm λh2 st2 kk2=>?_;have I2:Inv X pins σ H { s with heap:=h2,toks:=tk }:=I1.turnedL (t':=tk) kk2 hf;have hn:H T=none:=I.hok.fresh hT;have ht2:IsTup h2 T vals:=by
   obtain⟨o,e,r⟩:=ht;exact⟨o,kk2 T o (W'.apart i T _ hm) e,r⟩
  obtain⟨b1,b2,b3,b4,b5⟩:=st2;refine⟨.ref T,upd H T (.tup (Jv xs ys i)),I2.track (I.fpOk hT hn) ⟨(by show 2<=sizeLine;decide),vals.toList,Ln r r2 hp,by simpa using ht2⟩,rfl,⟨T,_,hn,rfl,rfl,λxs' ys' g1 g2=>by rw[Sk.inj I g1 c1,Sk.inj I g2 c2]⟩,⟨b1,b2,b3,b4.1,b5.1⟩,λc hc=>?_⟩;have hcT:c≠T:=λz=>W'.apart i T _ hm (by rw[←z];exact hc);rw[BG hcT];exact(hf c hc).1
 case done=>
  intro X hP hw hK hc i pins s σ H E I hf st hg;subst hP hw hK;obtain⟨xs,ys,c1,c2,hl,hi⟩:=hg;subst hi;obtain⟨a1,a2,a3,a4,a5⟩:=st;obtain⟨its,r,p⟩:=Sk.into I c1;obtain⟨jts,r2,p2⟩:=Sk.into I c2;exact(W X.A (I.ok.hd hc) xs ys its jts r r2 hl).done s _ _ ⟨a1,a2,a3,⟨a4,p⟩,⟨a5,p2⟩⟩ λh' tk kk=>⟨rfl,I.turnedL kk hf⟩
section
variable{X:Cx}{es:List Expr}{k0:Nat}{tpos:Pos}
noncomputable def dE(K:PySem.W.Frag)(ta:TA):TI:=λσ H R=>ta σ H λvs H1=>∃(k1 k2:Sk) (a b:Addr) (xs ys:List V),vs=[.ref a,.ref b]/\k1.sq K H1 a xs/\k2.sq K H1 b ys/\R (ItZ K k1 k2 a b) H1
theorem Q6{a b:Expr}(hg:Gl X "zip")(hm:X.mg "zip" = none)(ha:PA X [a,b] ta)(hs:starEach [a,b] X.env=(false,eval a X.env)::starEach [b] X.env)(hpl:(backTo pos (starEach [b] X.env)).any (·.1)=false):
  PI X (.Tuple es k0 tpos) (.Call (.Name "zip" p) [a,b] [] pos) (dE X.kw ta):=by
 intro pins s σ H R I h;refine Call_ (F4 I hg hm Oz (PyProof.Rows.callWith_type1 (thn (ha pos pins s σ H _ I h) λus s1 ⟨vs,H1,I1,r1,q1⟩=>?_) hs hpl));obtain⟨k1,k2,l,m,xs,ys,ev,hx,hy,q⟩:=q1;subst ev;obtain⟨u1,u2,eu,ru1,ru2⟩:=Vals.two r1;subst eu;cases ru1;cases ru2;obtain⟨its,rx,px⟩:=Sk.into I1 hx;obtain⟨jts,ry,py⟩:=Sk.into I1 hy;have ltl:=px.lt;have ltm:=py.lt;have new:=QR (.ref l) (.ref m) (k1.ob l) (k2.ob m) (λh=>k1.cn h l its.toArray) (λh=>k2.cn h m jts.toArray) (λh x=>x.keep λo e=>AAC _ e) (λ_ _ _ _ _ _ g z=>Sk.iter g z) (λ_ _ _ _ _ _ g z=>Sk.iter g z);refine callType_new F.called_zip (by decide) (F.typeCall_zip_2 _ _) (F.newCall_zip_2 _ _) (λobj=>F.args_object_init_3 obj _ _) F.entry_zip_new new ⟨px,py,?_⟩;have f1:(k1.ob l).isFreed=false:=by cases k1<;>rfl
 have f2:(k2.ob m).isFreed=false:=by cases k2<;>rfl
 have q1:(k1.ob l).cls=.type k1.nm/\(k1.ob l).data=.fields #[.ref l,.int 0 0]:=⟨rfl,rfl⟩;have q2:(k2.ob m).cls=.type k2.nm/\(k2.ob m).data=.fields #[.ref m,.int 0 0]:=⟨rfl,rfl⟩;generalize k1.ob l=o1 at *;generalize k2.ob m=o2 at *;have n1:(s1.heap.push o1).objs.size=s1.heap.objs.size+1:=Heap.size_push ..;have n2:(zh2 s1.heap o1 o2).objs.size=s1.heap.objs.size+2:=by rw[Heap.size_push,n1]
 have n3:((zh2 s1.heap o1 o2).push (Fr (.ref s1.heap.objs.size) (.ref (s1.heap.push o1).objs.size))).objs.size=s1.heap.objs.size+3:=by rw[Heap.size_push,n2]
 have n4:(zh4 s1.heap o1 o2).objs.size=s1.heap.objs.size+4:=by rw[Heap.size_push,n3]
 have kp:∀c o,s1.heap.get? c=some o->(zh5 s1.heap o1 o2).get? c=some o:=λc o e=>AAC _ (AAC _ (AAC _ (AAC _ (AAC _ e))));have a1:(zh5 s1.heap o1 o2).get? s1.heap.objs.size=some o1:=AAC _ (AAC _ (AAC _ (AAC _ (AAD _ f1))));have a2:(zh5 s1.heap o1 o2).get? (s1.heap.objs.size+1)=some o2:=by rw[←n1];exact AAC _ (AAC _ (AAC _ (AAD _ f2)))
 have a3:(zh5 s1.heap o1 o2).get? (s1.heap.objs.size+2)=some (Fr (.ref s1.heap.objs.size) (.ref (s1.heap.objs.size+1))):=by
  rw[←n1,←n2];exact AAC _ (AAC _ (AAD _ rfl))
 have a4:(zh5 s1.heap o1 o2).get? (s1.heap.objs.size+3)=some (Fr .none .none):=by
  rw[←n3];exact AAC _ (AAD _ rfl)
 have a5:(zh5 s1.heap o1 o2).get? (s1.heap.objs.size+4)=some (DJ (s1.heap.objs.size+2) (s1.heap.objs.size+3) .none):=by
  rw[←n4,←n2,←n3];exact AAD _ rfl
 show _/\_;rw[n4];refine⟨⟨_,a5,rfl⟩,GL a5 ?_⟩;refine⟨s1.heap.objs.size+4,[s1.heap.objs.size+4,s1.heap.objs.size+2,s1.heap.objs.size+3,s1.heap.objs.size,s1.heap.objs.size+1],_,_,H1,rfl,I1.kept (t':=s1.toks) kp,
  SJ k1 k2 l m (s1.heap.objs.size+4) (s1.heap.objs.size+2) (s1.heap.objs.size+3) s1.heap.objs.size (s1.heap.objs.size+1) (zap _ l m ltl ltm) (AAc ltl) (AAc (AAg ltm)),⟨a5,⟨_,a3⟩,⟨_,_,_,a4⟩,⟨o1,a1,q1.1,q1.2⟩,⟨o2,a2,q2.1,q2.2⟩⟩,λc hc=>Rn I1 c ?_,q⟩
 have hc':c=s1.heap.objs.size+4∨c=s1.heap.objs.size+2∨c=s1.heap.objs.size+3∨c=s1.heap.objs.size∨c=s1.heap.objs.size+1:=by simpa using hc
 rcases hc' with e|e|e|e|e<;>subst e<;>first|exact AAE _|exact Nat.le_add_right _ _
noncomputable def ItR(K:PySem.W.Frag)(a:Addr)(xs:List V):It:=⟨λi H=>i<xs.length/\SqL K H a xs,λi H v H'=>H'=H/\xs.reverse[i]?=some v,λi H=>i=xs.length/\SqL K H a xs⟩
noncomputable def dH(K:PySem.W.Frag)(ta:TA):TI:=λσ H R=>ta σ H λvs H1=>∃(a:Addr) (xs:List V),vs=[.ref a]/\SqL K H1 a xs/\R (ItR K a xs) H1
theorem UQ{P:Program}{w:World}{K:PySem.W.Frag}{tg:Expr}(a it:Addr)(xs:List V)(hn:a≠it):Jd P w K tg (ItR K a xs) [it] it (λi h=>i<=xs.length/\h.IsRevIter it a ((xs.length:Int)-1-(i:Int))) where
 mem:=AAP
 obj:=λi h st b hb=>by
  cases AAK.mp hb;obtain⟨_,o,e,c,d⟩:=st;exact⟨o,e,λv z=>by rw[d] at z;cases z⟩
 keep:=λi h h' st k=>⟨st.1,st.2.at λo e=>k it AAP o e⟩
 item:=by
  intro X hP hw hK hc i pins s σ H E I hf st hg;subst hP hw hK;obtain⟨hi,hq⟩:=hg;obtain⟨its,rv,p,_⟩:=I.list hq;have hl:=rv.length;have hs:its.toArray.size=xs.length:=by simp[hl]
  obtain⟨f0,f1,_,f3,f4,f5⟩:=hf it AAP;refine(Walks.listRev (prog:=X.prog) (w:=X.w) (A:=X.A) (I.ok.hd hc) it a hn its.toArray).item i s _ _ (by rw[hs];exact hi) ⟨by rw[hs];exact st.1,by rw[hs];exact st.2,p.isList⟩ λu h' tk hu st' kk=>?_;rw[hs] at st' hu;have I1:Inv X pins σ H { s with heap:=h',toks:=tk }:=I.turned (λb o hb e=>kk b o (by simpa using hb) e) f0 f1 f3 f4 f5;have hx:xs[xs.length-1-i]?=some (xs[xs.length-1-i]'(by omega)):=by simp
  obtain⟨u',e1,e2⟩:=rv.get hx;have:u'=u:=by
   have hu':its[xs.length-1-i]?=some u:=by simpa using hu
   rw[hu'] at e1;cases e1;rfl
  subst this;obtain⟨o,e,c,d⟩:=id st'.2.1;refine⟨_,rfl,Rk (s:={ s with heap:=h',toks:=tk }) e c d (by decide) ⟨_,H,I1,e2,⟨rfl,?_⟩,⟨st'.1,st'.2.1⟩,λb hb=>(hf b hb).1⟩⟩;rw[List.getElem?_reverse hi,hx]
 done:=by
  intro X hP hw hK hc i pins s σ H E I hf st hg;subst hP hw hK;obtain⟨hi,hq⟩:=hg;subst hi;obtain⟨f0,f1,_,f3,f4,f5⟩:=hf it AAP;have e:(xs.length:Int)-1-(xs.length:Int)=-1:=by omega
  have st2:=st.2;rw[e] at st2;exact wpAny_pyNext_rev_end (I.ok.hd hc) st2 λh' eb=>⟨rfl,I.turned (t':=s.toks) (λb o hb e=>eb b o hb e) f0 f1 f3 f4 f5⟩
 self:=λ_ _ _ _ _ st h=>wpAny_pyIter_revIter st.2 h
theorem Xa{tg a:Expr}{ta:TA}{p pos:Pos}(hg:Gl X "reversed")(hm:X.mg "reversed" = none)(ha:PA X [a] ta)(hs:starEach [a] X.env=[(false,eval a X.env)]):PI X tg (.Call (.Name "reversed" p) [a] [] pos) (dH X.kw ta):=by
 intro pins s σ H R I h;refine Call_ (F4 I hg hm PyProof.Rows.boot_reversed (PyProof.Rows.callWith_type1 (thn (ha pos pins s σ H _ I h) λus s1 ⟨vs,H1,I1,r1,q1⟩=>?_) hs rfl));obtain⟨l,xs,e,hq,q⟩:=q1;subst e;obtain⟨u,rfl,ru⟩:=EQ r1;cases ru;obtain⟨its,rv,pl,hz⟩:=I1.list hq;have hl:=rv.length;have hs':its.toArray.size=xs.length:=by simp[hl]
 have hlt:l<s1.heap.objs.size:=by obtain⟨o,e,_⟩:=pl.isList;exact Heap.lt_size e
 refine call_reversed_list pl.isList ?_;rw[hs'];have it:(s1.heap.push (revObj l ((xs.length:Int)-1))).IsRevIter s1.heap.objs.size l ((xs.length:Int)-1):=⟨_,AAD _ rfl,rfl,rfl⟩;refine wpAny_pyIter_revIter (s:={ s1 with heap:=s1.heap.push (revObj l ((xs.length:Int)-1)) }) it ?_;refine⟨s1.heap.objs.size,[s1.heap.objs.size],_,_,H1,rfl,I1.kept (t':=s1.toks) λb o e=>AAC _ e,UQ l _ xs (AAc hlt),⟨AAi _,by rw[show ((0:Nat):Int)=0 from rfl,Int.sub_zero];exact it⟩,λb hb=>?_,q⟩;cases AAK.mp hb;exact I1.fpOk (AAE _) (I1.hok.fresh (AAE _))
end
end L2
namespace Mi
open PySem L2 PyProof.Rows
section
variable{X:Cx}{e a b c:Expr}{pos:Pos}
theorem VZ:OpR X (binaryOp .Add) (λx y H Q=>∃a b ys,x=.ref a/\y=.ref b/\SqT X.kw H a []/\SqT X.kw H b ys/\Q (.ref b) H):=by
 intro pins s σ H x y v u Q I rx ry h;obtain⟨a,b,ys,rfl,rfl,ha,hb,q⟩:=h;cases rx;cases ry;obtain⟨its,r1,p1,_⟩:=I.tuple ha;obtain⟨its2,r2,p2,_⟩:=I.tuple hb;cases r1;obtain⟨⟨cls,dd,data,sl⟩,ho,hc,n,hd⟩:=p1;obtain⟨⟨cls2,dd2,data2,sl2⟩,ho2,hc2,n2,hd2⟩:=p2;simp only at hc hd hc2 hd2;subst hc hd hc2 hd2;exact concat_meets ⟨_,ho,rfl⟩ ⟨_,ho2,rfl⟩ noFill_tuple_add seq_tuple_add PySem.F.slot_tuple_add PySem.F.entry_tuple_add (PySem.F.args_tuple_add_2 _ _) (tuple_addW0 a b _ _ n n2 dd dd2 sl sl2 rfl) ⟨ho,ho2,⟨.ref b,H,I,rfl,q⟩⟩
noncomputable def BK(a b:D):M D:=match a,b with
 | .tup [],.tup ds=>ret (.tup ds)
 |a,b=>Bf a b
theorem Bg:OpR X (binaryOp .Add) (rM X.kw BK):=λpins s σ H x y v u Q I rx ry h=>by
 obtain⟨ι,μ,a,b,d,μ',R,ia,ib,e,q⟩:=h;unfold BK at e;split at e
 ·rename_i ds;cases e;unfold Is at ia;obtain⟨p,vs,rfl,h1,h2⟩:=ia;unfold IsL at h2;subst h2;have ib2:=ib;unfold Is at ib;obtain⟨p',vs',rfl,h1',h2'⟩:=ib;exact VZ pins s σ H _ _ v u Q I rx ry ⟨p,p',vs',rfl,rfl,h1,h1',q ι H R.ext0 R _ ib2⟩
 ·exact DX pins s σ H x y v u Q I rx ry ⟨ι,μ,_,_,d,μ',R,ia,ib,e,q⟩
theorem Lf{prog:Program}{w:World}{A:Around}{E:Value->Shared->Prop}{s:Shared}{vl vu:Value}{lo hi:Option Int}{Q:Value->Shared->Prop}(ht:IsTup s.heap t items)(hs:s.heap.IsSliceOf sl vl vu .none)(pl:IsPart vl lo)(pu:IsPart vu hi)
  (h1:HT.sIx items.size 0 lo=0) (h2:HT.sIx items.size items.size hi=items.size) (h:Q (.ref t) s):wpAny (model prog w) A (getItem (.ref t) (.ref sl)) Q E s:=by
 obtain⟨os,hos,hcs,hds⟩:=id hs;have hTs:s.TypeIs (.ref sl) "slice" := ⟨os,hos,hcs⟩;unfold getItem
 try with_reducible refine AAn ?_
 first|refine AAA (AAB ?_)|skip
 refine AAA (wpAny_sequenceKey ht.typeIs (by decide) ?_);refine AAA (wpAny_callSpecial?_slot (name:=Str.ofString "__getitem__") ht.typeIs PyProof.Rows.slot_tuple_getitem
  (AAb PyProof.Rows.slot_tuple_getitem ht.typeIs entry_tuple_getitem ?_ (args_tuple_getitem _ _)))
 show wpAny _ _ (Builtin.Tuple.tupleItemsOf (.ref t) >>= _) _ _ s;refine AAA (tupleItemsOf_ ht ?_);refine AAA (wpAny_typeOf hTs ?_);rw[if_pos (by decide)];refine AAA (HT.FW hs pl pu ?_);have hyes:((((HT.sIx items.size 0 lo:Nat):Int)==0&&(1:Int)==1&&(HT.sIx items.size items.size hi-HT.sIx items.size 0 lo)==items.size)=true):=by rw[h1,h2];simp
 show wpAny _ _ (if (((HT.sIx items.size 0 lo:Nat):Int)==0&&(1:Int)==1&&(HT.sIx items.size items.size hi-HT.sIx items.size 0 lo)==items.size)=true then _ else _) _ _ s;rw[if_pos hyes];refine AAA (m:=Builtin.Tuple.tupleIsExact (.ref t)) ?_;unfold Builtin.Tuple.tupleIsExact;refine AAA (wpAny_typeOf ht.typeIs (AAB ?_));rw[if_pos (by decide)];refine AAA (wpAny_rule ?_);exact AAB ⟨_,rfl,AAB h⟩
theorem W3:SlR X (λx lo hi H Q=>∃a xs,x=.ref a/\SqT X.kw H a xs/\HT.sIx xs.length 0 lo=0/\HT.sIx xs.length xs.length hi=xs.length/\Q (.ref a) H):=by
 intro pins s σ H x v vl vu lo hi sl Q I rx hs pl pu h;obtain⟨a,xs,rfl,hx,h1,h2,q⟩:=h;cases rx;obtain⟨its,r,ht,hz⟩:=I.tuple hx;have hlen:its.toArray.size=xs.length:=by rw[List.size_toArray];exact r.length.symm
 refine⟨"tuple",_,PyProof.Rows.slot_tuple_getitem.lookup,ht.typeIs,?_⟩;exact Lf ht hs pl pu (by rw[hlen];exact h1) (by rw[hlen];exact h2) ⟨.ref a,H,I,rfl,q⟩
theorem WJ{ds:List D}{lo hi:Option Int}(h1:HT.sIx ds.length 0 lo=0)(h2:HT.sIx ds.length ds.length hi=ds.length):FO ds lo hi=ds:=by
 unfold FO;rw[h1,h2];simp
noncomputable def Ks(lo hi:Option Int):D->M D
 | .tup ds=>ret (.tup (FO ds lo hi))
 |d=>bnd (Bs d) λds=>ret (.lst (FO ds lo hi))
noncomputable def eL(K:KW):V->Option Int->Option Int->Hp->VK->Prop:=λx lo hi H Q=>∃ι μ a d μ',RelH K ι μ H/\Is K ι μ.length H a x/\Ks lo hi a μ=some (d,μ') /\
 Aft K ι μ H μ' λι' H'=>∀v,Is K ι' μ'.length H' d v->Q v H'
theorem cf:SlR X (eL X.kw):=λpins s σ H x v vl vu lo hi sl Q I rx hs pl pu h=>by
 obtain⟨ι,μ,a,d,μ',R,ia,e,q⟩:=h;by_cases c:∃ds,a=.tup ds/\HT.sIx ds.length 0 lo=0/\HT.sIx ds.length ds.length hi=ds.length
 ·obtain⟨ds,rfl,h1,h2⟩:=c;have e:some (D.tup (FO ds lo hi),μ)=some (d,μ'):=e;rw[WJ h1 h2] at e;cases e;have ia2:=ia;unfold Is at ia;obtain⟨p,vs,rfl,g1,g2⟩:=ia;exact W3 pins s σ H _ v vl vu lo hi sl Q I rx hs pl pu ⟨p,vs,rfl,g1,by rw[g2.length];exact h1,by rw[g2.length];exact h2,q ι H R.ext0 R _ ia2⟩
 ·refine cg pins s σ H x v vl vu lo hi sl Q I rx hs pl pu ⟨ι,μ,a,d,μ',R,ia,?_,q⟩;cases a with
  |tup ds=>
   show (if HT.sIx ds.length 0 lo=0/\HT.sIx ds.length ds.length hi=ds.length then (BO:M D) else ret (D.tup (FO ds lo hi))) μ=_;rw[if_neg (λz=>c ⟨ds,rfl,z.1,z.2⟩)];exact e
  |_=>exact e
noncomputable def Ie(me:Sl->M D)(ml mh:Sl->M (Option Int)):Sl->M D:=λτ=>bnd (me τ) λx=>bnd (ml τ) λl=>bnd (mh τ) λh=>Ks l h x
theorem EM{e:Expr}{lo hi:Option Expr}(he:RE X e me)(hl:RO X lo ml)(hh:RO X hi mh):RE X (.Subscript e (.Slice lo hi none p2) pos) (Ie me ml mh):=RE.wk (ON cf he.pe hl.pe hh.pe) λσ H Q h=>by
 obtain⟨ι,μ,τ,z,μ',R,S,e,q⟩:=h;obtain⟨x,μ1,e1,e⟩:=AI e;obtain⟨l,μ2,e2,e⟩:=AI e;obtain⟨u,μ3,e3,e⟩:=AI e;refine⟨ι,μ,τ,x,μ1,R,S,e1,λι1 H1 E1 R1 v i1=>⟨ι1,μ1,τ,l,μ2,R1,S.ext E1,e2,λι2 H2 E2 R2=>⟨ι2,μ2,τ,u,μ3,R2,S.ext (E1.trans E2),e3,λι3 H3 E3 R3=>?_⟩⟩⟩;have E23:=E2.trans E3;exact⟨ι3,μ3,x,z,μ',R3,i1.ext E23,e,λι4 H4 E4 R4=>q ι4 H4 ((E1.trans E23).trans E4) R4⟩
end
end Mi
namespace Mi
open PySem L2
open PyProof.Rows hiding St
section
variable{X:Cx}{e o:Expr}{apos cpos:Pos}
noncomputable def F2(g:D->List D->M D)(mo:Sl->M D):Sl->M D:=λτ=>bnd (mo τ) λx=>bnd (Dz x) λ_=>g x []
theorem SM{K:KW}{g:D->List D->M D}{mo:Sl->M D}(h:tE K (F2 g mo) σ H Q):bn K "list" (rMM K g) (tE K mo) σ H Q:=by
 obtain⟨ι,μ,τ,d,μ',R,S,e,q⟩:=h;obtain⟨x,μ1,e1,ee1⟩:=AI e;obtain⟨u,μ2,e2,ee2⟩:=AI ee1;have hm:=MM e2;subst hm;refine⟨ι,μ,τ,x,_,R,S,e1,λι1 H1 E1 R1 v1 i1=>⟨(Jr R1 i1 e2).2,?_⟩⟩;exact⟨ι1,_,x,[],d,μ',R1,i1,IsL.nil,ee2,λι3 H3 E3 R3=>q ι3 H3 (E1.trans E3) R3⟩
theorem JK{name:Str}{id:String}(slot:Slot "list" name id)(hty:typeOf (.builtin id)=pure (.type "method_descriptor"))(hm:MtR X id (rMM X.kw g))(ho:RE X o mo)
  (hbase:attributeBase o name X.env (eval o X.env)=eval o X.env:=by rfl) (hline:(apos.endLine==cpos.line)=true:=by rfl) :
  RE X (.Call (.Attribute o name apos) [] [] cpos) (F2 g mo):=RE.wk (Zx PySem.F.plainAttrs_list slot hty hm ho.pe hbase hline) λ_ _ _ h=>SM h
end
end Mi
namespace Mi
open PySem L2
def Pu1(g:List D->M D):Prop:=∀ds μ a μ',g ds μ=some (a,μ')->μ'=μ
theorem U8:Pu AJ:=λτ μ a μ' e=>by cases e;rfl
theorem Q5(h:Pu m)(hr:Pu r):Pu (AC m r):=λτ μ a μ' e=>by
 obtain⟨x,μ1,e1,e2⟩:=AI e;obtain⟨xs,μ2,e3,e4⟩:=AI e2;cases e4;rw[hr _ _ _ _ e3,h _ _ _ _ e1]
theorem Q4(hf:Pu1 f)(h:Pu m):Pu (AF f m):=λτ μ a μ' e=>by
 obtain⟨x,μ1,e1,e2⟩:=AI e;rw[hf _ _ _ _ e2,h _ _ _ _ e1]
end Mi
local macro_rules | `(tactic| wtm_at "y")=>`(tactic| repeat first|exact Mi.Q2|exact Mi.cK|exact Mi.Q0|exact Mi.Yj|exact Mi.U9|exact Mi.U8|exact Mi.pu_inst|exact Mi.pu_len|apply Mi.Q1|apply Mi.Yi|apply Mi.Q5|apply Mi.Q4|apply Mi.pu_or|apply Mi.pu_and|apply Mi.pu_not)
namespace Ht
open PySem PySem.SetTable
end Ht
namespace Ht
open PySem PySem.SetTable
open PyProof.Rows
end Ht
namespace Ht
open PySem PySem.Spec PyProof.Rows Sem L2
end Ht
namespace Ht
open PySem PySem.Spec PyProof.Rows Sem L2 PySem.SetTable
end Ht
namespace Ht
end Ht
namespace L2
open PySem PySem.Spec PyProof.Rows Sem Ht
end L2
namespace Mi
open PySem L2 Ht
end Mi
namespace L2
open PySem PySem.Spec PyProof.Rows Sem Ht
end L2
namespace Mi
open PySem L2 Ht
end Mi
namespace L2
open PySem PySem.Spec PyProof.Rows Sem Ht
end L2
namespace Mi
open PySem L2 Ht
end Mi
namespace L2
open PySem PySem.Spec PyProof.Rows
section
variable{X:Cx}{scope:Scope}{tgs:List Str}{ix:List Nat}
noncomputable def N6(P:Program)(w:World)(A:Around):Option Expr->Env->(Bool->Shared->Prop)->(Value->Shared->Prop)->Shared->Prop
 |none,_,Q,_,s=>Q true s
 |some c,env,Q,E,s=>wpAny (model P w) A (isTrue c env (eval c env)) Q E s
theorem US:∀{co:Option Expr},N6 P w A co env Q (λ_ _=>False) s->(∀b s,Q b s->Q' b s)->N6 P w A co env Q' E s
 |none,h,k=>k _ _ h
 |some _,h,k=>Ja h k
def ZA(P:Program)(w:World)(A:Around)(tg elt:Expr)(co:Option Expr)(it acc:Value)(env:Env)(R:Result->Shared->Prop)(G:Shared->Prop)(r:Option Value)(s1:Shared):Prop:=match r with
 |none=>R (.ok .next) s1
 |some v=>wpAny (model P w) A (letOwnedTupleGo tg it v) (λ_ s0=>wpAny (model P w) A (assign tg env v) (λ_ s2=>
   N6 P w A co env (λok s3=>if ok=true then wpAny (model P w) A (eval elt env) (λx s4=>wpAny (model P w) A (call (.builtin "list.append") [acc,x]) (λ_ s5=>G s5) (notedBy (model P w) A env λe s'=>R (.error e) s') s4) (notedBy (model P w) A env λe s'=>R (.error e) s') s3 else G s3)
    (notedBy (model P w) A env λe s'=>R (.error e) s') s2) (notedBy (model P w) A env λe s'=>R (.error e) s') s0) (notedBy (model P w) A env λe s'=>R (.error e) s') s1
theorem Vi(I:Nat->Shared->Prop):∀(co:Option Expr),
  (∀n s,I n s->wpAny (model P w) A (pyNext it) (ZA P w A tg elt co it acc env R λs5=>∃m,m<n/\I m s5) (notedBy (model P w) A env λe s'=>R (.error e) s') s)->∀n,I n s->
  codeAny (model P w) A (.compLoop (.ListComp elt [⟨tg,iter,co.toList,0⟩] scope pos) 0 it acc env) R s
 |none,turn,n,h=>PySem.W.kcp_loop I (λn s hI=>AAh (turn n s hI) (λr s1 q=>match r,q with
   |none,q=>q
   |some v,q=>AAh q (λ_ _ q=>AAh q (λ_ _ q=>by
     have q':=q;dsimp only[N6] at q';rw[if_pos rfl] at q';exact q') λ_ _ x=>x) λ_ _ x=>x) λ_ _ x=>x) n h
 |some c,turn,n,h=>PySem.W.kct_loop I (λn s hI=>AAh (turn n s hI) (λr s1 q=>match r,q with
   |none,q=>q
   |some v,q=>q) λ_ _ x=>x) n h
def WY(X:Cx)(co:Option Expr)(tc:TT):Prop:=
 ∀(pins:List (Addr×Obj)) (s:Shared) (σ:St) (H:Hp) (Q:Bool->Hp->Prop),Inv X pins σ H s->tc σ H Q->N6 X.prog X.w X.A co X.env (TP X pins σ Q) X.xe s
theorem Ol:∀{is:List Nat},(∀i∈is,i<n)->∀vs σ H (Q:St->Hp->Prop),Mi.F5 is vs σ H Q->Mi.F5 is vs σ H λσ2 H2=>Q σ2 H2/\σ2.length=σ.length/\σ2.drop n=σ.drop n
 |[],_,vs,σ,H,Q,h=>⟨h.1,h.2,rfl,rfl⟩
 |i::is,hi,vs,σ,H,Q,h=>by
  obtain⟨v,vr,rfl,h⟩:=h;refine⟨v,vr,rfl,?_⟩;have z:=Ol (is:=is) (λj hj=>hi j (AAQ _ hj)) vr _ H Q h;have e1:(σ.set i (some v)).length=σ.length:=by simp
  have e2:(σ.set i (some v)).drop n=σ.drop n:=by rw[List.drop_set_of_lt (hi i (by simp))]
  rw[e1,e2] at z;exact z
theorem V5{n k:Nat}{K:PySem.W.Frag}(h:∀i∈is,i<n):GK n (av K k (Mi.F5 is)):=λx σ H Q q=>by
 obtain⟨a,xs,e,h1,h2,h3⟩:=q;exact⟨a,xs,e,h1,h2,Ol h _ _ _ _ h3⟩
theorem Os{elt tg iter:Expr}{co:Option Expr}{pos:Pos}{g:TG}{tc:TT}{te:TE}{pins:List (Addr×Obj)}{fp:List Addr}{tn:Nat->Heap->Prop}{J:It}{Q:VK}
  (S:BScope X scope tgs ix) (hc:X.calm=true) (hg:∀fp C s H,PG (cxB X scope tgs fp C s H) tg g) (hgk:GK tgs.length g) (hi:∀fp C s H,WY (cxB X scope tgs fp C s H) co tc) (he:∀fp C s H,PE (cxB X scope tgs fp C s H) elt te)
  (I2:Inv X pins σ H2 s2) (T:Jd X.prog X.w X.kw tg J fp it tn) (t0:tn 0 s2.heap) (hf:∀b∈fp,GB X pins H2 b)
  (W:Nat->Nat->List V->Hp->Prop) (w0:∃m,W 0 m [] H2)
  (turn:∀i m ys H,W i m ys H->(J.stop i H/\ys.length<=sizeLine/\∀p,H p=none->Q (.ref p) (upd H p (.lst ys))) ∨
   (J.go i H/\ys.length<sizeLine/\∃N:List V->Hp->Prop,(∀ys' H',N ys' H'->∃m',m'<m/\W (i+1) m' ys' H')/\∀x H',J.yld i H x H'->g x (DL tgs ix σ) H' λσ2 H2=>tc σ2 H2 λb H3=>
    if b=true then te σ2 H3 λv H4=>N (ys++[v]) H4 else N ys H3))
  {RR:Value->Addr->Result->Shared->Prop}
  (fin:∀(D C:Addr) (s':Shared) (H':Hp) (m:Str->Option Value),Inv X pins σ H' s'->Q (.ref D) H'->s'.heap.Ns C m->GB X pins H' C->RR (.ref D) C (.ok .next) s') :
  wpAny (model X.prog X.w) X.A (newList []) (λacc s₃=>wpAny (model X.prog X.w) X.A (newFunctionEnv scope X.env.globals (FP X.env scope.names []) [] X.env.qual none .none (some X.env)) (λcenv s₄=>
   codeAny (model X.prog X.w) X.A (.compStart (.ListComp elt [⟨tg,iter,co.toList,0⟩] scope pos) 0 (.ref it) acc { cenv with scope:=relabel scope X.env }) (RR acc cenv.locals) s₄) X.xe s₃) X.xe s2:=by
 refine AAp (wpAny_newFunctionEnv S.nocell (by intro y hy;simp at hy) (λh₁ hns₁ hsb₁=>?_) S.kind);dsimp only at hns₁ hsb₁ ⊢;generalize hH2:s2.heap.push { cls:=.type "list",dict:=none,data:=.seq ([]:List Value).toArray }=G2 at hns₁ hsb₁ ⊢;have hC:G2.objs.size=s2.heap.objs.size+1:=by rw[←hH2,Heap.size_push]
 have hCle:s2.heap.objs.size<=G2.objs.size:=by rw[hC];exact Nat.le_succ _
 have hDC:s2.heap.objs.size≠G2.objs.size:=by rw[hC];exact AAc (Nat.lt_succ_self _)
 have below:∀b,b<s2.heap.objs.size->b≠G2.objs.size/\b≠s2.heap.objs.size:=λb hb=>⟨by rw[hC];exact AAc (AAg hb),AAc hb⟩;have old:∀b o,s2.heap.get? b=some o->h₁.get? b=some o:=λb o e=>hsb₁.extBut b o (below b (Heap.lt_size e)).1 (AAC _ (hH2 ▸ AAC _ e));have hacc:h₁.get? s2.heap.objs.size=some (GI [] 0):=hsb₁.extBut _ _ hDC (AAC _ (hH2 ▸ AAD _ rfl));have hfo:∀b∈fp,b<s2.heap.objs.size:=λb hb=>let ⟨o,e,_⟩:=T.obj 0 _ t0 b hb;Heap.lt_size e
 have ok:=QE (tgs:=tgs) (ix:=ix) (C:=G2.objs.size) S I2 hf hfo hCle;have sub:∀x c,(FP X.env scope.names []).lookup x=some c->X.env.cells.lookup x=some c:=Fe scope.names [] (λ_ _ z=>by simp at z);have nDfs:s2.heap.objs.size∉frs X.stack:=λhz=>by
  rcases AAI.mp (I2.stkSub _ hz) with z|z
  ·exact absurd I2.lt (by rw[←z];exact AAu _)
  ·exact I2.nofs (AAE _) z
 have nDcell:∀x c,(FP X.env scope.names []).lookup x=some c->c≠s2.heap.objs.size:=λx c e=>AAc (I2.cellLt (sub x c e));have ncell:∀(its:List Value) (k:Nat) (v:Option Value),(GI its k).data≠.cell v:=λits k v z=>by cases z
 have stat:∀{Hx:Hp} {o:Obj},(∀b∈fp,Hx b=none)->∀b∈fp,GB (cxB X scope tgs fp G2.objs.size s2 H2) [(s2.heap.objs.size,o)] Hx b:=λ{Hx o} hn b hb=>
  ⟨hn b hb,(ok.exf b hb).1,ok.exfs b hb,.inl hb,(ok.exf b hb).2,λp hp z=>by
   have e:p=(s2.heap.objs.size,o):=by simpa[cxB] using hp
   subst e;exact absurd (hfo b hb) (by rw[←z];exact AAu _)⟩
 have loop:∀s₃:Shared,s₃={ s2 with heap:=h₁,toks:=s2.toks+([]:List (Str×Value)).length }->
   codeAny (model X.prog X.w) X.A (.compLoop (.ListComp elt [⟨tg,iter,co.toList,0⟩] scope pos) 0 (.ref it) (.ref s2.heap.objs.size) (compEnvC scope (FP X.env scope.names []) G2.objs.size X.env)) (RR (.ref s2.heap.objs.size) G2.objs.size) s₃:=by
  rintro s₃ rfl;obtain⟨m0,w0⟩:=w0;refine Vi (λn s=>∃i ys its k H,Inv (cxB X scope tgs fp G2.objs.size s2 H2) [(s2.heap.objs.size,GI its k)] (DL tgs ix σ) H s/\tn i s.heap/\(∀b∈fp,H b=none)/\Vals ys its/\W i n ys H) co ?_ m0
   ⟨0,[],[],0,H2,LF S I2 hf hfo hCle (AAE _) hDC hns₁ old rfl rfl hacc (ncell _ _),T.keep 0 _ _ t0 λb _ o e=>old b o e,λb hb=>(hf b hb).1,.nil,w0⟩
  rintro n s ⟨i,ys,its,k,H,I,st,fr,rv,w⟩;rcases turn i n ys H w with ⟨stop,hz,q⟩|⟨go,hz8,N,hN,step⟩
  ·refine thn (T.done (cxB X scope tgs fp G2.objs.size s2 H2) rfl rfl rfl hc i _ s _ H _ I (stat fr) st stop) λr s1 ⟨hr,I1⟩=>?_;subst hr;obtain⟨pe,pn,_⟩:=I1.pin (s2.heap.objs.size,GI its k) (AAZ _ (by simp));have J0:Inv X pins σ H s1:=I2.call' I1.os I1.base I1.hok I1.bare λb hb=>⟨(hf b hb).2.2.2.1,(hf b hb).2.1,(hf b hb).2.2.2.2.1,(hf b hb).2.2.2.2.2⟩;have J1:Inv X pins σ (upd H s2.heap.objs.size (.lst ys)) s1:=J0.track (I2.fpOk (AAE _) pn) ⟨hz,its,k,rv,pe⟩;obtain⟨m,hn,_⟩:=I1.loc;exact fin _ _ s1 _ m J1 (q _ pn) hn (I2.fpOk hCle (by rw[BG (Ne.symm hDC)];exact I1.free))
  ·refine thn (T.item (cxB X scope tgs fp G2.objs.size s2 H2) rfl rfl rfl hc i _ s _ H _ I (stat fr) st go) λr s1 ⟨u,hr,h1⟩=>?_;subst hr;refine thn h1 λ_ s5 ⟨x,H5,I5,r5,y5,st5,fr5⟩=>?_;have I5':=I5.pinned (stat fr5) (T.obj _ _ st5);refine Ja (hg fp G2.objs.size s2 H2 _ s5 _ H5 x u _ I5' r5 (hgk _ _ _ _ (step x H5 y5))) λ_ s6 ⟨σ6,H6,I6,q6,l6,d6⟩=>?_;refine US (hi fp G2.objs.size s2 H2 _ s6 σ6 H6 _ I6 q6) λokb s7 ⟨H7,I7,q7⟩=>?_;cases okb with
   |false=>
    rw[if_neg AAf] at q7 ⊢;obtain⟨m',hm,w7⟩:=hN _ _ q7;refine⟨m',hm,i+1,ys,its,k,H7,Qc I7.unpinned l6 d6,T.keep _ _ _ st5 λb hb o e=>(I7.pin (b,o) (AAZ _ (AAZ _ (CM hb e)))).1,λb hb=>?_,rv,w7⟩;obtain⟨o,e,_⟩:=T.obj _ _ st5 b hb;exact(I7.pin (b,o) (AAZ _ (AAZ _ (CM hb e)))).2.1
   |true=>
    rw[if_pos rfl] at q7 ⊢;refine Ja (he fp G2.objs.size s2 H2 _ s7 σ6 H7 _ I7 q7) λxv s8 ⟨v,H8,I8,rv8,q8⟩=>?_;obtain⟨m',hm,w8⟩:=hN _ _ q8;obtain⟨pe,pn,_⟩:=I8.pin (s2.heap.objs.size,GI its k) (AAZ _ (AAa _ (by simp)));have hlen:=rv.length;refine call_meets PySem.F.slot_list_append ⟨_,pe,rfl⟩ PySem.F.entry_list_append (PySem.F.args_list_append_2 _ _) (PySem.list_append s2.heap.objs.size its.toArray k xv (by rw[List.size_toArray];omega)) ⟨pe,?_⟩;have hp:its.toArray.push xv=(its++[xv]).toArray:=by simp
    have q':∃k',(s8.heap.update s2.heap.objs.size (Obj.mapSeq (λa=>a.push xv))).get? s2.heap.objs.size=some (GI (its++[xv]) k'):=⟨_,by
     unfold GI;rw[←hp];exact PySem.IsL.update pe (λa=>a.push xv)⟩
    obtain⟨k',q'⟩:=q';have I9:Inv (cxB X scope tgs fp G2.objs.size s2 H2) [] σ6 H8 { s8 with heap:=s8.heap.update s2.heap.objs.size (Obj.mapSeq (λa=>a.push xv)) }:=
     (I8.pins_of (pins':=[]) (λp hp=>absurd hp (by simp))).turned (t':=s8.toks) (λb o hb e=>(Heap.get?_update_other s8.heap (Obj.mapSeq (λa=>a.push xv)) (Ne.symm hb)).trans e) pn hDC (.inr (AAE _)) nDcell (λp hp=>absurd hp (by simp[cxB]))
    have I10:Inv (cxB X scope tgs fp G2.objs.size s2 H2) [(s2.heap.objs.size,GI (its++[xv]) k')] σ6 H8 { s8 with heap:=s8.heap.update s2.heap.objs.size (Obj.mapSeq (λa=>a.push xv)) }:=
     I9.pins_of λp hp=>by
      have e:p=(s2.heap.objs.size,GI (its++[xv]) k'):=by simpa using hp
      subst e;exact⟨q',pn,hDC,nDfs,ncell _ _⟩
    refine⟨m',hm,i+1,ys++[v],its++[xv],k',H8,Qc I10 l6 d6,T.keep _ _ _ st5 λb hb o e=>?_,λb hb=>?_,rv.append (.cons rv8 .nil),w8⟩
    ·exact(Heap.get?_update_other s8.heap (Obj.mapSeq (λa=>a.push xv)) (Ne.symm (below b (hfo b hb)).2)).trans (I8.pin (b,o) (AAZ _ (AAZ _ (CM hb e)))).1
    ·obtain⟨o,e,_⟩:=T.obj _ _ st5 b hb;exact(I8.pin (b,o) (AAZ _ (AAZ _ (CM hb e)))).2.1
 exact codeAny_compStart_list (loop _ rfl) (T.self _ 0 _ _ _ (T.keep 0 _ _ t0 λb _ o e=>old b o e) (loop _ rfl))
end
end L2
namespace Mi
open PySem L2
section
variable{X:Cx}{tgs:List Str}{ix:List Nat}
theorem L7:WY X none (tT K Bu):=λpins s σ H Q I h=>by
 obtain⟨ι,μ,τ,b,μ',R,S,e,q⟩:=h;cases e;exact⟨H,I,q ι H R.ext0 R⟩
theorem UY(hn:tgs.length=n)(hg:∀v σ H Q,tG K bf v σ H Q->g v σ H Q)(hf:∀ι μ μ' H ds vs d (Q:VK),RelH K ι μ H->IsL K ι μ.length H ds vs->fin ds μ=some (d,μ')->(Aft K ι μ H μ' λι' H'=>∀v,Is K ι' μ'.length H' d v->Q v H')->
   vs.length<=sizeLine/\∀p,H p=none->Q (.ref p) (upd H p (.lst vs)))
  (h:tE K (Bi n ix src bf mc me fin) σ H Q):Ka tgs ix (tI K src) g (tT K mc) (tE K me) σ H Q:=by
 subst hn;obtain⟨ι,μ,τ,d,μ',R,S,e,q⟩:=h;obtain⟨ds,μ1,e1,e5⟩:=AI e;obtain⟨u,μ2,e2,e6⟩:=AI e5;obtain⟨zs,μ3,e3,e7⟩:=AI e6;obtain⟨hl,e4⟩:=CG e2;clear e e5 e6;subst e4;refine⟨ι,μ,τ,ds,_,R,S,e1,λι1 H1 E1 R1 J it=>?_⟩;refine⟨λi' m ys H=>m=ds.length-i'/\i'<=ds.length/\ys.length<=i'/\∃(ι:Nat->Addr) (μ:Mh) (as:List D),RelH K ι μ H/\RelS K ι μ.length H τ σ/\ItM K J ds ι μ H/\IsL K ι μ.length H as ys/\Cb bf mc me (BR tgs.length ix τ) (ds.drop i') as μ=some (zs,μ3) /\
  Aft K ι μ H μ' λι' H'=>∀v,Is K ι' μ'.length H' d v->Q v H',⟨ds.length,by simp,AAi _,AAE _,ι1,_,[],R1,S.ext E1,it,.nil,e3,λι2 H2 E2 R2=>q ι2 H2 (E1.trans E2) R2⟩,?_⟩
 rintro i' m ys H ⟨hm,hil,hyl,ι,μ,as,R,S,it,ia,e3,q⟩;obtain⟨go,stop,yl⟩:=it ι μ H R.ext0 R;by_cases hlt:i'<ds.length
 ·refine .inr ⟨go i' hlt,by omega,λys' H'=>ys'.length<=i'+1/\∃(ι:Nat->Addr) (μ:Mh) (as:List D),RelH K ι μ H'/\RelS K ι μ.length H' τ σ/\ItM K J ds ι μ H'/\IsL K ι μ.length H' as ys'/\Cb bf mc me (BR tgs.length ix τ) (ds.drop (i'+1)) as μ=some (zs,μ3) /\
   Aft K ι μ H' μ' λι' H'=>∀v,Is K ι' μ'.length H' d v->Q v H',λys' H' z=>⟨_,(by omega:ds.length-(i'+1)<m),rfl,hlt,z⟩,λx H2 y=>?_⟩
  have hd:ds[i']?=some ds[i']:=by simp[hlt]
  obtain⟨E2,R2,ix2⟩:=yl i' x H2 _ hd y;rw[List.drop_eq_getElem_cons hlt] at e3;obtain⟨τ1,μ1,e1,e5⟩:=AI e3;clear e3;obtain⟨cc,μ2,e2,e6⟩:=AI e5;clear e5;have S2:=(S.ext E2).block (tgs:=tgs) (ix:=ix);refine hg _ _ _ _ ⟨ι,_,_,_,τ1,μ1,R2,S2,ix2,e1,λι0 H0 E0 R0 σ0 S0=>?_⟩;have E20:=E2.trans E0;refine⟨ι0,_,_,cc,μ2,R0,S0,e2,λι3 H3 E3 R3=>?_⟩;have E13:=E20.trans E3;cases cc with
  |false=>
   exact⟨by omega,ι3,μ2,as,R3,S.ext E13,it.ext E13,ia.ext E13,e6,λι5 H5 E5 R5=>q ι5 H5 (E13.trans E5) R5⟩
  |true=>
   obtain⟨y',μ4,e4,e8⟩:=AI e6;refine⟨ι3,μ2,_,y',μ4,R3,S0.ext E3,e4,λι4 H4 E4 R4 v iv=>?_⟩;have E14:=E13.trans E4;exact⟨by simp;omega,ι4,μ4,as++[y'],R4,S.ext E14,it.ext E14,(ia.ext E14).append (.one iv),e8,λι5 H5 E5 R5=>q ι5 H5 (E14.trans E5) R5⟩
 ·have hi':i'=ds.length:=by omega
  subst hi';rw[List.drop_length] at e3;cases e3;obtain⟨z1,z2⟩:=hf ι _ μ' H _ ys d Q R ia e7 q;exact .inl ⟨stop,z1,z2⟩
theorem SN(pb:∀d τ τ' μ μ',bf d τ μ=some (τ',μ')->μ'=μ)(pc:Pu mc)(pm:Pu me)(hn:tgs.length=n)(hg:∀v σ H Q,tG K bf v σ H Q->g v σ H Q)(hf:∀ι μ μ' H ds vs d (Q:VK),RelH K ι μ H->IsL K ι μ.length H ds vs->fin ds μ=some (d,μ')->(Aft K ι μ H μ' λι' H'=>∀v,Is K ι' μ'.length H' d v->Q v H')->
   vs.length<=sizeLine/\∀p,H p=none->Q (.ref p) (upd H p (.lst vs)))
  (h:tE K (Bi n ix src bf mc me fin) σ H Q):Ka tgs ix (tIP K src) g (tT K mc) (tE K me) σ H Q:=by
 subst hn;obtain⟨ι,μ,τ,d,μ',R,S,e,q⟩:=h;obtain⟨ds,ν,e1,e5⟩:=AI e;obtain⟨u,μ2,e2,e6⟩:=AI e5;obtain⟨zs,μ3,e3,e7⟩:=AI e6;obtain⟨hl,e4⟩:=CG e2;clear e e5 e6;subst e4;refine⟨ι,μ,τ,ds,_,R,S,e1,λι1 H1 E1 R1 J it=>?_⟩;refine⟨λi' m ys H=>m=ds.length-i'/\i'<=ds.length/\ys.length<=i'/\∃(ι:Nat->Addr) (as:List D),RelH K ι μ2 H/\RelS K ι μ2.length H τ σ/\ItP K J ds ι μ2 H/\IsL K ι μ2.length H as ys/\Cb bf mc me (BR tgs.length ix τ) (ds.drop i') as μ2=some (zs,μ3) /\
  Aft K ι μ2 H μ' λι' H'=>∀v,Is K ι' μ'.length H' d v->Q v H',⟨ds.length,by simp,AAi _,AAE _,ι1,[],R1,S.ext E1,it,.nil,e3,λι2 H2 E2 R2=>q ι2 H2 (E1.trans E2) R2⟩,?_⟩
 rintro i' m ys H ⟨hm,hil,hyl,ι,as,R,S,it,ia,e3,q⟩;obtain⟨go,stop,yl⟩:=it ι H R.ext0 R;by_cases hlt:i'<ds.length
 ·refine .inr ⟨go i' hlt,by omega,λys' H'=>ys'.length<=i'+1/\∃(ι:Nat->Addr) (as:List D),RelH K ι μ2 H'/\RelS K ι μ2.length H' τ σ/\ItP K J ds ι μ2 H'/\IsL K ι μ2.length H' as ys'/\Cb bf mc me (BR tgs.length ix τ) (ds.drop (i'+1)) as μ2=some (zs,μ3) /\
   Aft K ι μ2 H' μ' λι' H'=>∀v,Is K ι' μ'.length H' d v->Q v H',λys' H' z=>⟨_,(by omega:ds.length-(i'+1)<m),rfl,hlt,z⟩,λx H2 y=>?_⟩
  have hd:ds[i']?=some ds[i']:=by simp[hlt]
  obtain⟨E2,R2,ix2⟩:=yl i' x H2 _ hd y;rw[List.drop_eq_getElem_cons hlt] at e3;obtain⟨τ1,μ1,e1,e5⟩:=AI e3;clear e3;obtain⟨cc,μ5,ec,e6⟩:=AI e5;clear e5;have z1:=pb _ _ _ _ _ e1;subst z1;have z5:=pc _ _ _ _ ec;subst z5;have S2:=(S.ext E2).block (tgs:=tgs) (ix:=ix);refine hg _ _ _ _ ⟨ι,_,_,_,τ1,_,R2,S2,ix2,e1,λι0 H0 E0 R0 σ0 S0=>?_⟩;have E20:=E2.trans E0;refine⟨ι0,_,_,cc,_,R0,S0,ec,λι3 H3 E3 R3=>?_⟩;have E13:=E20.trans E3;cases cc with
  |false=>
   exact⟨by omega,ι3,as,R3,S.ext E13,it.ext E13,ia.ext E13,e6,λι5 H5 E5 R5=>q ι5 H5 (E13.trans E5) R5⟩
  |true=>
   obtain⟨y',μ4,e4,e8⟩:=AI e6;have z4:=pm _ _ _ _ e4;subst z4;refine⟨ι3,_,_,y',_,R3,S0.ext E3,e4,λι4 H4 E4 R4 v iv=>?_⟩;have E14:=E13.trans E4;exact⟨by simp;omega,ι4,as++[y'],R4,S.ext E14,it.ext E14,(ia.ext E14).append (.one iv),e8,λι5 H5 E5 R5=>q ι5 H5 (E14.trans E5) R5⟩
 ·have hi':i'=ds.length:=by omega
  subst hi';rw[List.drop_length] at e3;cases e3;obtain⟨z1,z2⟩:=hf ι _ μ' H _ ys d Q R ia e7 q;exact .inl ⟨stop,z1,z2⟩
theorem UV(h:tG K (DT is) v σ H Q):av K is.length (F5 is) v σ H Q:=by
 obtain⟨ι,μ,τ,d,τ',μ',R,S,i1,e,q⟩:=h;cases d with
 |tup ds=>
  unfold Is at i1;obtain⟨p,vs,rfl,h1,h2⟩:=i1;have e':(if ds.length=is.length then H9 is ds τ else BO) μ=some (τ',μ'):=e;by_cases hl:ds.length=is.length
  ·rw[if_pos hl] at e';refine⟨p,vs,rfl,h1,by rw[h2.length,hl],JS R S h2 e' λz σ' S'=>?_⟩;subst z;exact q ι H R.ext0 R σ' S'
  ·rw[if_neg hl] at e';cases e'
 |_=>cases e
theorem YS(d:D)(τ τ':Sl)(μ μ':Mh)(e:DT is d τ μ=some (τ',μ')):μ'=μ:=by
 cases d with
 |tup ds=>
  have e':(if ds.length=is.length then H9 is ds τ else BO) μ=some (τ',μ'):=e;by_cases hl:ds.length=is.length
  ·rw[if_pos hl] at e';exact Mf e'
  ·rw[if_neg hl] at e';cases e'
 |_=>cases e
end
end Mi
namespace L2
open PySem PySem.Spec PyProof.Rows
end L2
namespace Mi
open PySem L2 Ht
end Mi
namespace L2
open PySem PySem.Spec PyProof.Rows
section
variable{X:Cx}{scope:Scope}{tgs:List Str}{ix:List Nat}
theorem Jm(co:Option Expr)(hN:X.N.Nodup)(hiN:X.N[i]?=some y)(hy:X.env.scope.names.lookup y=some .local)
  (S:BScope X scope tgs ix) (hc:X.calm=true) (hi:PI X tg iter wi) (hg:∀fp C s H,PG (cxB X scope tgs fp C s H) tg g) (hgk:GK tgs.length g)
  (hif:∀fp C s H,WY (cxB X scope tgs fp C s H) co tc) (he:∀fp C s H,PE (cxB X scope tgs fp C s H) elt te)
  (hsw:swapsWith (.ListComp elt [⟨tg,iter,co.toList,0⟩] scope pos) (some (.Name y py)) spos.line X.env=pure true:=by rfl) (hs:∀x,foldedSetIterable iter X.env x=pure x:=by intro _;rfl) :
  PS X (.Assign [.Name y py] (.ListComp elt [⟨tg,iter,co.toList,0⟩] scope pos) spos) (UZ (Ka tgs ix wi g tc te) (FE i)):=by
 intro pins s σ H D0 I h;rw[exec_Assign_Name_used _ _ _ _ hsw];refine AAA (wpAny_standAt (AAA ?_));show wpAny _ X.A (do let _ ←comprehension (.ListComp elt [⟨tg,iter,co.toList,0⟩] scope pos) scope X.env _ (newList []) false (eval iter X.env) (some (assign (.Name y py) X.env))) _ _ s;refine AAA (AAh (wpAny_comprehension_free (use:=some (assign (.Name y py) X.env)) (Q:=λ_ s'=>SP X pins D0 .next s') rfl hs (D4 (S.cells I.ok)) S.kind S.loc ?_) (λ_ s' hq=>AAB (AAB hq)) λ_ _ e=>e);refine thn (hi pins s σ H _ I h) λv s1 h1=>thn h1 λitv s2 h2=>?_;obtain⟨it,fp,tn,J,H2,e,I2,T,t0,f2,W,w0,turn⟩:=h2;subst e;refine Os (Q:=λx H1=>FE i x σ H1 D0.nx) (RR:=λacc C=>compPost (model X.prog X.w) X.A X.xe (some (assign (.Name y py) X.env)) (λ_ s'=>SP X pins D0 .next s') acc C) S hc hg hgk hif he I2 T t0 f2 W w0 turn ?_;intro D C s' H' m J1 q hn fC;obtain⟨f0,f1,f2,f3,f4,f5⟩:=fC;show wpAny _ X.A (assign (.Name y py) X.env (.ref D)) _ _ _;refine wpAny_assign_Name (JI (v:=.ref D) J1 hN hiN (.inl hy) rfl (λs'' I'' hsb=>?_) (.inr hy));obtain⟨a,sb,ha⟩:=hsb;have hCa:C≠a:=by
  rcases ha with z|z
  ·rw[z];exact f1
  ·exact Ne.symm (f4 y a z)
 exact⟨m,hn.sameBut sb hCa,λh' sb'=>⟨_,H',I''.turned (t':=s''.toks) (λb o hb e=>(sb'.2 b hb).trans e) f0 f1 f3 f4 f5,q⟩⟩
end
end L2
namespace Mi
open PySem L2
section
variable{X:Cx}{scope:Scope}{tgs:List Str}{ix:List Nat}{elt iter:Expr}{pos:Pos}
theorem OI(co:Option Expr)(k:Nat)(hN:X.N.Nodup)(S:BScope X scope tgs ix)(hc:X.calm=true)(hi:RI X (.Tuple es kk tp) iter src)(hg:∀fp C s H,PGs (cxB X scope tgs fp C s H) es (F5 is))(hif:∀fp C s H,WY (cxB X scope tgs fp C s H) co (tT X.kw mc))(he:∀fp C s H,RE (cxB X scope tgs fp C s H) elt me)
  (hfin:∀ι μ μ' H ds vs d (Q:VK),RelH X.kw ι μ H->IsL X.kw ι μ.length H ds vs->fin ds μ=some (d,μ')->(Aft X.kw ι μ H μ' λι' H'=>∀v,Is X.kw ι' μ'.length H' d v->Q v H')->vs.length<=sizeLine/\∀p,H p=none->Q (.ref p) (upd H p (.lst vs)))
  (hlen:∀fp C s H,(assignEach es (cxB X scope tgs fp C s H).env).length=is.length:=by intro _ _ _ _;rfl) (hst:∀fp C s H,(assignEach es (cxB X scope tgs fp C s H).env).findIdx? (·.1)=none:=by intro _ _ _ _;rfl)
  (hiN:X.N[k]?=some y:=by rfl) (hy:X.env.scope.names.lookup y=some .local:=by rfl) (hin:∀i∈is,i<tgs.length:=by decide) (hn:tgs.length=n:=by rfl)
  (hsw:swapsWith (.ListComp elt [⟨.Tuple es kk tp,iter,co.toList,0⟩] scope pos) (some (.Name y py)) spos.line X.env=pure true:=by rfl) (hs:∀x,foldedSetIterable iter X.env x=pure x:=by intro _;rfl) :
  RS X (.Assign [.Name y py] (.ListComp elt [⟨.Tuple es kk tp,iter,co.toList,0⟩] scope pos) spos) (As (Bi n ix src (DT is) mc me fin) (AM k)):=
 RS.wk (Jm co (te:=tE X.kw me) hN hiN hy S hc hi.pe (λfp C s H=>Pn (X:=cxB X scope tgs fp C s H) hc (hg fp C s H) (hlen fp C s H) (hst fp C s H)) (V5 hin) hif (λfp C s H=>(he fp C s H).pe) hsw hs) λDn σ H h=>by
  obtain⟨ι,μ,τ,f,τ',μ',R,S,e,q⟩:=h;obtain⟨x,μ1,e1,e⟩:=AI e;obtain⟨τ1,μ2,e2,e⟩:=AI e;cases e2;cases e;refine UY hn (λ_ _ _ _ h=>UV h) hfin ⟨ι,μ,τ,x,_,R,S,e1,λι1 H1 E1 R1 v i1=>?_⟩;exact q ι1 H1 E1 R1 _ ((S.ext E1).set k i1)
end
end Mi
namespace Xc
open PySem L2
end Xc
namespace Mi
open PySem L2
mutual
def clB(k:Nat):D->Bool
 | .tup ds=>Iq k ds
 | .lst ds=>Iq k ds
 | .ref n=>Nat.blt n k
 |_=>true
def Iq(k:Nat):List D->Bool
 |[]=>true
 |d::ds=>match clB k d with
  |true=>Iq k ds
  |false=>false
end
noncomputable def dc(k:Nat):MO->Bool
 | .lst ds=>Iq k ds
 | .dK l=>Iq k (l.map (·.2))
 | .dC l=>Iq k (l.map (·.2))
 | .ins _ l=>Iq k (l.map (·.2))
 | .dP l=>Iq k (l.map (·.1))&&Iq k (l.map (·.2))
 | .exc _ _=>true
mutual
theorem WL:∀{d:D},clB k d=true->Cl k d
 | .tup ds,h=>by unfold clB at h;unfold Cl;exact EH h
 | .lst ds,h=>by unfold clB at h;unfold Cl;exact EH h
 | .ref n,h=>by unfold clB at h;unfold Cl;exact Nat.blt_eq.mp h
 | .non,_ | .bl _,_ | .int _,_ | .str _,_ | .ty _,_ | .scr _,_=>by unfold Cl;trivial
theorem EH:∀{ds:List D},Iq k ds=true->ClL k ds
 |[],_=>by unfold ClL;trivial
 |d::ds,h=>by
  unfold Iq at h;unfold ClL;cases e:clB k d with
  |true=>rw[e] at h;exact⟨WL e,EH h⟩
  |false=>rw[e] at h;cases h
end
theorem YM(h:dc k o=true):ClO k o:=by
 cases o with
 |lst ds=>exact EH h
 |dK l=>exact EH h
 |dC l=>exact EH h
 |ins _ l=>exact EH h
 |dP l=>
  have h:(Iq k (l.map (·.1))&&Iq k (l.map (·.2)))=true:=h;rw[Bool.and_eq_true] at h;exact⟨EH h.1,EH h.2⟩
 |exc c n=>exact trivial
noncomputable def Hr(k:Nat):Nat->Mh->Option Mh
 |0,_=>some []
 |_+1,[]=>none
 |n+1,o::μ=>match dc k o with
  |true=>match Hr k n μ with
   |some r=>some (o::r)
   |none=>none
  |false=>none
theorem JV:∀{n:Nat} {μ r:Mh},Hr k n μ=some r->(∃g,μ=r++g)/\List.length r=n/\∀o∈r,ClO k o
 |0,μ,r,h=>by cases h;exact⟨⟨μ,rfl⟩,rfl,λo ho=>by cases ho⟩
 |_+1,[],r,h=>by cases h
 |n+1,o::μ,r,h=>by
  unfold Hr at h;split at h
  ·rename_i hc;split at h
   ·rename_i r' hr;cases h;obtain⟨⟨g,rfl⟩,h2,h3⟩:=JV hr;refine⟨⟨g,rfl⟩,by rw[AAH,h2],λp hp=>?_⟩;rcases AAI.mp hp with rfl|hp
    ·exact YM hc
    ·exact h3 p hp
   ·cases h
  ·cases h
noncomputable def Z5(μ:Mh)(hw:How)(d:D)(μ2:Mh):Option (D×Mh):=match hw with
 | .all=>some (d,μ2)
 | .drop=>match clB (List.length μ) d with
  |true=>match Hr (List.length μ) (List.length μ) μ2 with
   |some r=>some (d,r)
   |none=>none
  |false=>none
 | .frz=>match d with
  | .ref n=>match Nat.ble (List.length μ) n with
   |true=>match μ2[n]? with
    |some (.lst ds)=>match Iq (List.length μ) ds with
     |true=>match Hr (List.length μ) (List.length μ) μ2 with
      |some r=>some (.lst ds,r)
      |none=>none
     |false=>none
    |_=>none
   |false=>none
  |d=>match clB (List.length μ) d with
   |true=>match Hr (List.length μ) (List.length μ) μ2 with
    |some r=>some (d,r)
    |none=>none
   |false=>none
theorem Xi(h:Z5 μ hw d' μ2=some (d,μ')):(μ'=μ2/\d=d')∨Gr μ μ2 μ' d' d:=by
 have dr:∀{d' d:D} {μ':Mh},(match clB (List.length μ) d' with|true=>(match Hr (List.length μ) (List.length μ) μ2 with|some r=>some (d',r)|none=>none)|false=>none)=some (d,μ')->Gr μ μ2 μ' d' d:=by
  intro d' d μ' h;split at h
  ·rename_i hc;split at h
   ·rename_i r hr;cases h;obtain⟨g,hl,ho⟩:=JV hr;exact⟨g,by rw[hl];exact AAE _,λn o e=>.inr (by rw[hl];exact ho o (AAU e)),.inl ⟨rfl,by rw[hl];exact WL hc⟩⟩
   ·cases h
  ·cases h
 unfold Z5 at h;split at h
 ·cases h;exact .inl ⟨rfl,rfl⟩
 ·exact .inr (dr h)
 ·split at h
  ·split at h
   ·rename_i n hn;split at h
    ·rename_i ds hq;split at h
     ·rename_i hc;split at h
      ·rename_i r hr;cases h;obtain⟨g,hl,ho⟩:=JV hr;exact .inr ⟨g,by rw[hl];exact AAE _,λn o e=>.inr (by rw[hl];exact ho o (AAU e)),.inr ⟨_,ds,rfl,hq,by rw[hl];exact Nat.le_of_ble_eq_true hn,rfl,by rw[hl];exact EH hc⟩⟩
      ·cases h
     ·cases h
    ·cases h
   ·cases h
  ·exact .inr (dr h)
noncomputable def Yt:Fl->Bool
 | .next=>true
 | .rt _=>true
 |_=>false
theorem V2(h:Yt f=true):f=.next∨∃d,f=.rt d:=by
 cases f with
 |next=>exact .inl rfl
 |rt d=>exact .inr ⟨d,rfl⟩
 |_=>cases h
noncomputable def Cw(hw:How)(n ps:Nat)(mb:Sl->M (Fl×Sl)):List D->M D:=λds μ=>match Nat.beq (List.length ds) ps with
 |true=>match mb (BQ n ds) μ with
  |some ((fl,_),μ2)=>match Yt fl with
   |true=>Z5 μ hw (HE fl) μ2
   |false=>none
  |none=>none
 |false=>none
theorem F8(h:Cw hw n ps mb ds μ=some (d,μ')):
  ds.length=ps/\∃fl τ2 μ2,mb (BQ n ds) μ=some ((fl,τ2),μ2)/\(fl=.next∨∃d,fl=.rt d)/\((μ'=μ2/\d=HE fl)∨Gr μ μ2 μ' (HE fl) d):=by
 unfold Cw at h;split at h
 ·rename_i hl;split at h
  ·rename_i fl τ2 μ2 e;split at h
   ·rename_i hf;exact⟨Nat.eq_of_beq_eq_true hl,fl,τ2,μ2,e,V2 hf,Xi h⟩
   ·cases h
  ·cases h
 ·cases h
section
variable{P:Program}{w:World}{K:PySem.W.Frag}{mg:Str->Option Value}{base:Heap}
theorem JT(hw:How)(F:Fun K x qual st f fd)(S:Ac N ps (AN st))
  (body:∀(cdv:Value) (A:Around) (outer:List Env) (s:Shared) (H:Hp) (E:XK),Room k (A.deeper (PyProof.Rows.envOfC qual (AN st) s.heap.objs.size f cdv))->RSs (Ip CX0 P w K mg base N qual (AN st) f cdv A outer s H E).nox (CU st) mb) :
  FnOk P w K mg base CX0 (k+1) f fd ps (spM ⟨K,w⟩ ps.length (Cw hw N.length ps.length mb)):=by
 refine F.ok S (λvs H Q E h=>h.1) (λcdv A outer s H vs Q E hr h=>⟨_,(body cdv A outer s H E hr).pe,?_⟩);obtain⟨hl,ι,μ,ds,d,μ',R,i,e,q⟩:=h;obtain⟨_,fl,τ2,μ2,e2,hfl,t⟩:=F8 e;refine⟨ι,μ,_,fl,τ2,μ2,R,RelS.start i,e2,λι2 H2 E2 R2 σ2 S2=>?_⟩;have z:Ext ι μ.length H ι2 μ'.length H2/\RelH ⟨K,w⟩ ι2 μ' H2/\∀v,Is ⟨K,w⟩ ι2 μ2.length H2 (HE fl) v->Is ⟨K,w⟩ ι2 μ'.length H2 d v:=by
  rcases t with ⟨rfl,rfl⟩|t
  ·exact⟨E2,R2,λv iv=>iv⟩
  ·exact N9 R E2 R2 t
 obtain⟨E3,R3,c⟩:=z;rcases hfl with rfl|⟨d0,rfl⟩
 ·exact q ι2 H2 E3 R3 _ (c _ (by unfold HE Is;rfl))
 ·exact λv iv=>q ι2 H2 E3 R3 v (c v iv)
theorem DF(hw:How)(F:Fun K x qual st f fd)(S:Ac N ps (AN st))(hm:mg x=some (.ref f))(hb:Binds K fd ps [])
  (body:∀(cdv:Value) (A:Around) (outer:List Env) (s:Shared) (H:Hp) (E:XK),Room k (A.deeper (PyProof.Rows.envOfC qual (AN st) s.heap.objs.size f cdv))->RSs (Ip CX0 P w K mg base N qual (AN st) f cdv A outer s H E).nox (CU st) mb) :
  Fn P w K mg base x ps (k+1) (Cw hw N.length ps.length mb):=⟨λds μ r h=>(F8 (d:=r.1) (μ':=r.2) h).1,f,fd,JT hw F S body,hm,F.kp,hb⟩
theorem JN(hw:How)(d:Dm K c m qual st C f fd)(S:Ac N ps (AN st))(hb:Binds K fd ps [])
  (body:∀(cdv:Value) (A:Around) (outer:List Env) (s:Shared) (H:Hp) (E:XK),Room k (A.deeper (PyProof.Rows.envOfC qual (AN st) s.heap.objs.size f cdv))->RSs (Ip CX0 P w K mg base N qual (AN st) f cdv A outer s H E).nox (CU st) mb) :
  Mth P w K mg base c m ps (k+1) (Cw hw N.length ps.length mb):=⟨λds μ r h=>(F8 (d:=r.1) (μ':=r.2) h).1,C,f,fd,d.ca,d.me,JT hw d.F S body,hb⟩
theorem TD(hw:How)(d:Di K c qual st C f fd)(S:Ac N ps (AN st))(hm:mg c=some (.ref C))(hb:Binds K fd ps [])
  (body:∀(cdv:Value) (A:Around) (outer:List Env) (s:Shared) (H:Hp) (E:XK),Room k (A.deeper (PyProof.Rows.envOfC qual (AN st) s.heap.objs.size f cdv))->RSs (Ip CX0 P w K mg base N qual (AN st) f cdv A outer s H E).nox (CU st) mb) :
  Ini P w K mg base c ps (k+1) (Cw hw N.length ps.length mb):=⟨λds μ r h=>(F8 (d:=r.1) (μ':=r.2) h).1,C,f,fd,d.at_,hm,d.mak,JT hw d.F S body,hb⟩
end
end Mi
namespace Xc
open PySem L2 Mi
open PyProof.Rows (AllBare)
section
end
end Xc
namespace Xc
open PySem L2 Mi
end Xc
namespace L2
open PySem PySem.Spec PyProof.Rows
section
variable{prog:Program}{w:World}{A:Around}{E:Value->Shared->Prop}{s:Shared}
theorem two_back (a b : Value) : ((List.range 2).filterMap fun (k : Nat) => #[a, b][((1 : Int) + (k : Int) * -1).toNat]?).toArray = #[b, a] := rfl
theorem back_cut {sl : Addr} {tk : Tok} {n : Int} {Q : Int × Int × Nat → Shared → Prop} (hs : s.heap.IsSliceOf sl .none .none (.int (-1) tk)) (hn : n = 2) (h : Q (1, -1, 2) s) : wpAny (model prog w) A (Builtin.Slice.sliceApplied (.ref sl) (pure n)) Q E s := by
  subst hn
  obtain ⟨os, hos, _, hds⟩ := hs
  unfold Builtin.Slice.sliceApplied Builtin.Slice.sliceFields
  repeat (any_goals (first | assumption | with_reducible refine wpAny_field hos hds rfl ?_ | refine slicePart_int ?_ | refine slicePart_none ?_ | wp_step))
theorem VV {t sl : Addr} {a b : Value} {tk : Tok} {Q : Value → Shared → Prop} (ht : IsTup s.heap t #[a, b]) (hs : s.heap.IsSliceOf sl .none .none (.int (-1) tk))
    (h : Q (.ref s.heap.objs.size) { s with heap := s.heap.push ⟨.type "tuple", none, .seq #[b, a], #[]⟩ }) : wpAny (model prog w) A (getItem (.ref t) (.ref sl)) Q E s := by
  have hT := ht.typeIs
  have hTs : s.TypeIs (.ref sl) "slice" := let ⟨os, hos, hcs, _⟩ := hs; ⟨os, hos, hcs⟩
  unfold getItem
  repeat (any_goals (first | assumption | with_reducible refine wpAny_sequenceKey hT (by decide) ?_ | with_reducible refine wpAny_callSpecial?_slot hT slot_tuple_getitem ?_ | with_reducible refine wpAny_call_entry slot_tuple_getitem hT entry_tuple_getitem ?_ (args_tuple_getitem _ _) | with_reducible refine tupleItemsOf_ ht ?_ | with_reducible refine wpAny_typeOf hTs ?_ | with_reducible refine back_cut hs rfl ?_ | wp_step))
  exact ⟨_, rfl, wpAny_pure (two_back a b ▸ h)⟩
end
section
variable{X:Cx}{e st o:Expr}{es:List Expr}{te ts:TE}{t:TA}{pos p2 apos cpos:Pos}
noncomputable def bX(K:PySem.W.Frag)(te ts:TE):TE:=λσ H Q=>te σ H λx H1=>ts σ H1 λy H2=>y=.int (-1)/\∃a u v,x=.ref a/\SqT K H2 a [u,v]/\∀p,H2 p=none->Q (.ref p) (upd H2 p (.tup [v,u]))
theorem Xb(he:PE X e te)(hst:PE X st ts):PE X (.Subscript e (.Slice none none (some st) p2) pos) (bX X.K te ts):=by
 intro pins s σ H Q I h;refine Subscript_ (thn (he pins s σ H _ I h) λv s1 ⟨x,H1,I1,r1,q1⟩=>wpAny_Slice ?_);rw[evalPart_none,evalPart_some];refine AAB (AAB (thn (hst pins s1 σ H1 _ I1 q1) λvk s3 ⟨y,H3,I3,pk,ey,a,x1,x2,ex,hq,q⟩=>?_));subst ey ex;obtain⟨t,rfl⟩:=pk;cases r1;have I4:Inv X pins σ H3 { s3 with heap:=s3.heap.push { cls:=.type "slice",data:=.fields #[.none,.none,.int (-1) t] } }:=I3.kept (t':=s3.toks) λb ob q=>AAC _ q;obtain⟨its,r,ht,hz⟩:=I4.tuple hq;obtain⟨u1,u2,rfl,ru1,ru2⟩:=Vals.two r;show wpAny (model X.prog X.w) X.A (subscriptTail e (.Slice none none (some st) p2) (.ref a) (.ref s3.heap.objs.size)) (EP X pins σ Q) X.xe { s3 with heap:=s3.heap.push { cls:=.type "slice",data:=.fields #[.none,.none,.int (-1) t] } };refine tail_any (ops:=[.ref a,.ref s3.heap.objs.size]) ht.typeIs slot_tuple_getitem.lookup ?_ (by with_unfolding_all rfl);refine VV ht (Heap.IsSliceOf.new ..) ⟨.ref _,_,I4.laid (t':=s3.toks) (o:=.tup [x2,x1]) (λb ob q=>AAC _ q) (AAE _) ⟨(by show 2<=sizeLine;decide),[u2,u1],.cons ru2 (.cons ru1 .nil),IsTup.new _ _⟩,rfl,q _ (I4.hok.fresh (AAE _))⟩
noncomputable def tKG(P:Params)(K:PySem.W.Frag)(ad:Addr)(t:TA):TE:=λσ H Q=>t σ H λvs H2=>∃y r,KGet P K ad y r/\((vs=[y]/\Q (r.getD .non) H2)∨∃z,vs=[y,z]/\Q (r.getD z) H2)
theorem L1{o:Option V}{r:Option Value}(h:RelO o r)(hd:RelV d u):RelV (o.getD d) (r.getD u):=by
 cases o with
 |none=>
  cases r with
  |none=>exact hd
  |some _=>exact h.elim
 |some x=>
  cases r with
  |none=>exact h.elim
  |some y=>exact h
theorem cQ{ad:Addr}(kd:X.K.lookup ad=some ⟨.type "dict",none,.dict ds n,#[]⟩)(ho:PE X o (tC (.ref ad)))(ha:PA X (e::es) t)
  (hbase:attributeBase o "get" X.env (eval o X.env)=eval o X.env)
  (hfew:((backTo cpos (starEach (e::es) X.env)).all (λx=>!x.1)&&(backToKw cpos (keywordEach [] X.env)).all (λx=>x.1.isSome)
   && decide ((e::es).length+([]:List Keyword).length+(if ([]:List Keyword).isEmpty then 0 else 1)<30))=true)
  (hline:(apos.endLine==cpos.line)=true) (hs:starEach (e::es) X.env=(false,eval e X.env)::starEach es X.env) (hplain:(backTo cpos (starEach es X.env)).any (·.1)=false) :
  PE X (.Call (.Attribute o "get" apos) (e::es) [] cpos) (tKG X.w.params X.K ad t):=by
 intro pins s σ H Q I h;refine wpAny_Call_method_late hbase hfew hline rfl (thn (ho pins s σ H (λx H1=>x=.ref ad/\tKG X.w.params X.K ad t σ H1 Q) I ⟨rfl,h⟩) λv s1 ⟨x,H1,I1,r1,ex,q1⟩=>?_);subst ex;cases r1;refine⟨"dict",_,PySem.F.plainAttrs_dict,PySem.F.slot_dict_get,PySem.F.type_dict_get,⟨_,I1.kIn ad _ kd,rfl⟩,λa e=>by cases e;exact⟨_,I1.kIn ad _ kd,rfl⟩,?_⟩;have hA:=ha cpos pins s1 σ H1 _ I1 q1;rw[hs] at hA ⊢;refine Calls.callWith_builtin (by show (false||(backTo cpos (starEach es X.env)).any (·.1))=false;rw[hplain]<;>rfl) (Calls.evalArgs_plain ?_);refine thn hA λus s2 ⟨vs,H2,I2,r2,y,r,g,q2⟩=>?_;obtain⟨x,es',n',r',rfl,hl,hk,hn,ro,lo⟩:=g;have mp:=PySem.W.mapOf_K (prog:=X.prog) (w:=X.w) (λa o q=>I2.kIn a o q) hl hk;rcases q2 with ⟨rfl,q⟩|⟨z,rfl,q⟩
 ·obtain⟨u,rfl,t,rfl⟩:=EQ r2;refine call_meetsIn PySem.F.slot_dict_get ⟨_,I2.kIn ad _ hl,rfl⟩ PySem.F.entry_dict_get (PySem.F.args_dict_get_2 _ _) (meets_dict_get (strKind X.prog X.w) ad (strKind_is X.prog X.w x t) lo) ⟨_,mp,?_⟩;rw[PySem.W.find_K hl hn];exact⟨_,H2,I2.tok _,L1 (d:=.non) ro rfl,q⟩
 ·obtain⟨u,u2,rfl,⟨t,rfl⟩,rz⟩:=Lu r2;refine call_meetsIn PySem.F.slot_dict_get ⟨_,I2.kIn ad _ hl,rfl⟩ PySem.F.entry_dict_get (PySem.F.args_dict_get_3 _ _ _) (meets_dict_get_default (strKind X.prog X.w) ad (strKind_is X.prog X.w x t) lo u2) ⟨_,mp,?_⟩;rw[PySem.W.find_K hl hn];exact⟨_,H2,I2.tok _,L1 ro rz,q⟩
end
theorem QA(hc:o2.cls=.type "tuple")(hd:o2.data=.seq items2 n2)(h2:items.size+items2.size<=sizeLine):
  Meets (Builtin.«list.extend» ⟨[.ref l,.ref b],[]⟩) (λ_ R s=>s.heap.get? l=some { cls:=.type "list",data:=.seq items n }/\s.heap.get? b=some o2/\R (.ok (.ret Value.none)) { s with heap:=s.heap.update l (Obj.mapSeq λx=>x++items2) }):=by
 refine .of_wp λprog w A R s ⟨a1,a2,q⟩=>?_;show wpAny _ _ (Builtin.List.listExtendWith (.ref l) (.ref b) .none) _ _ s;unfold Builtin.List.listExtendWith;refine AAA (wpAny_typeOf (T := "tuple") ⟨_,a2,hc⟩ ?_);rw[if_pos (by simp)];refine AAA (m:=Builtin.List.listItems (.ref b)) ?_;unfold Builtin.List.listItems;refine AAA (AAt a2 hd (AAB (AAA (AAA (AAt a1 rfl (AAB ?_))))));have hlong:¬(!items.isEmpty&&Builtin.List.listTooLong (items.size+items2.size))=true:=by
  rw[K2 h2,Bool.and_false];exact AAf
 rw[if_neg hlong];refine AAA (m:=Builtin.List.listUpdate (.ref l) (·++items2)) ?_;unfold Builtin.List.listUpdate;refine wpAny_updateSeq a1 rfl ?_ (by omega) (by rw[Array.size_append];omega);exact AAB ⟨_,rfl,q⟩
end L2
namespace Mi
open PySem L2
section
variable{K:KW}{ι:Nat->Addr}{μ μ':Mh}{H:Hp}{d:D}{v:V}{ds es:List D}
theorem O4(R:RelH K ι μ H)(i:Is K ι μ.length H d v)(e:HW d μ=some (ds,μ')):μ'=μ/\∃(k:Sk) (p:Addr) (vs:List V),v=.ref p/\IsL K ι μ.length H ds vs/\∀ι' (ν:Mh) H',Ext ι μ.length H ι' ν.length H'->k.sq K H' p vs:=by
 cases d with
 |lst xs=>
  cases e;unfold Is at i;obtain⟨p,vs,rfl,h1,hn,h2⟩:=i;exact⟨rfl,.l,p,vs,rfl,h2,λι' ν H' E=>SqL.of (E.keep p _ h1 hn)⟩
 |tup xs=>
  cases e;unfold Is at i;obtain⟨p,vs,rfl,h1,h2⟩:=i;exact⟨rfl,.t,p,vs,rfl,h2,λι' ν H' E=>G3 E h1⟩
 |scr ns=>
  cases e;unfold Is at i;obtain⟨p,rfl,h1⟩:=i;exact⟨rfl,.l,p,_,rfl,IsL.ofInts ns,λι' ν H' E=>(J4 E h1).sq⟩
 |_=>cases e
theorem YY(R:RelH K ι μ H)(s1:k1.sq K H p vs)(s2:k2.sq K H q ws)(i:IsL K ι μ.length H ds vs)(j:IsL K ι μ.length H es ws)(hd:(GM ds es)[k]?=some d)(y:(ItZ K k1 k2 p q).yld k H x H2):Ext ι μ.length H ι μ.length H2/\RelH K ι μ H2/\Is K ι μ.length H2 d x:=by
 obtain⟨T,src,hT,rfl,rfl,u⟩:=y;obtain⟨E2,R2⟩:=R.laid (.tup src) hT;refine⟨E2,R2,?_⟩;obtain⟨x,y,h1,h2,rfl⟩:=KF hd;obtain⟨v,ev,iv⟩:=i.get h1;obtain⟨u',eu,iu⟩:=j.get h2;have es':src=[v,u']:=by rw[u vs ws s1 s2];unfold Jv;simp[List.getD,ev,eu]
 subst es';unfold Is;exact⟨T,_,rfl,SqT.of Bt,.cons (iv.ext E2) (.one (iu.ext E2))⟩
theorem Vz(st1:∀ι' (ν:Mh) H',Ext ι μ.length H ι' ν.length H'->k1.sq K H' p vs)(st2:∀ι' (ν:Mh) H',Ext ι μ.length H ι' ν.length H'->k2.sq K H' q ws)(i:IsL K ι μ.length H ds vs)(j:IsL K ι μ.length H es ws)(hl:es.length=ds.length):
  ItM K (ItZ K k1 k2 p q) (GM ds es) ι μ H:=by
 intro ι' μ' H' E R;have s1:=st1 ι' μ' H' E;have s2:=st2 ι' μ' H' E;have hl':ws.length=vs.length:=by rw[i.length,j.length,hl]
 rw[ID hl,←i.length];exact⟨λk hk=>⟨vs,ws,s1,s2,hl',hk⟩,⟨vs,ws,s1,s2,hl',rfl⟩,λk x H2 d hd y=>YY R s1 s2 (i.ext E) (j.ext E) hd y⟩
end
noncomputable def KG(f:D->M (List D)):List D->M (List D)
 |[a,b]=>bnd (f a) λxs=>bnd (f b) λys=>λμ=>if ys.length=xs.length then some (GM xs ys,μ) else none
 |_=>BO
noncomputable def OW(f:D->M (List D))(m:Sl->M (List D)):Sl->M (List D):=λτ=>bnd (m τ) (KG f)
section
variable{X:Cx}{a b e o tg st:Expr}{es:List Expr}{pos p tpos apos cpos p2:Pos}{k0:Nat}
theorem XB(hm:X.mg "zip" = none)(ha:RA X [a,b] m)(hg:Gl X "zip" := by rfl)(hs:starEach [a,b] X.env=(false,eval a X.env)::starEach [b] X.env:=by exact BH rfl)(hpl:(backTo pos (starEach [b] X.env)).any (·.1)=false:=by exact BY rfl):
  RI X (.Tuple es k0 tpos) (.Call (.Name "zip" p) [a,b] [] pos) (OW HW m):=
 RI.wk (Q6 hg hm ha.pe hs hpl) λσ H R q=>by
  obtain⟨ι,μ,τ,ds,μ',R0,S,e,q⟩:=q;obtain⟨zs,μ1,e1,e2⟩:=AI e;refine⟨ι,μ,τ,zs,μ1,R0,S,e1,λι1 H1 E1 R1 vs i1=>?_⟩;unfold KG at e2;split at e2
  ·rename_i d1 d2;obtain⟨xs,ν1,e3,e4⟩:=AI e2;obtain⟨ys,ν2,e5,e6⟩:=AI e4;obtain⟨v,u,rfl,i2,i3⟩:=LE i1;obtain⟨hm1,k1,p1,vs,rfl,j1,s1⟩:=O4 R1 i2 e3;subst hm1;obtain⟨hm2,k2,p2,ws,rfl,j2,s2⟩:=O4 R1 i3 e5;subst hm2;split at e6
   ·rename_i hl;cases e6;exact⟨k1,k2,p1,p2,vs,ws,rfl,s1 _ _ _ R1.ext0,s2 _ _ _ R1.ext0,q ι1 H1 E1 R1 _ (Vz s1 s2 j1 j2 hl)⟩
   ·cases e6
  ·cases e2
theorem O5(e:O6 d μ=some (ds,μ')):μ'=μ/\∃n,d=.ref n/\μ[n]?=some (.lst ds):=by
 cases d with
 |ref n=>
  have e:(match μ[n]? with|some (.lst ds)=>some (ds,μ)|_=>none)=some (ds,μ'):=e;split at e
  ·rename_i es hn;cases e;exact⟨rfl,n,rfl,hn⟩
  ·cases e
 |_=>cases e
theorem Nf(R:RelH K ι μ H)(h:μ[n]?=some (.lst ds)):∃vs,SqL K H (ι n) vs/\IsL K ι μ.length H ds vs:=by
 obtain⟨u,hu,vs,rfl,iv⟩:=R.obj n _ h;exact⟨vs,SqL.of hu,iv⟩
theorem XA(hm:X.mg "zip" = none)(ha:RA X [a,b] m)(hg:Gl X "zip" := by rfl)(hs:starEach [a,b] X.env=(false,eval a X.env)::starEach [b] X.env:=by exact BH rfl)(hpl:(backTo pos (starEach [b] X.env)).any (·.1)=false:=by exact BY rfl):
  RIP X (.Tuple es k0 tpos) (.Call (.Name "zip" p) [a,b] [] pos) (OW O6 m):=
 ⟨PI.wk (Q6 hg hm ha.pe hs hpl) λσ H R q=>by
  obtain⟨ι,μ,τ,ds,μ',R0,S,e,q⟩:=q;obtain⟨zs,μ1,e1,e2⟩:=AI e;refine⟨ι,μ,τ,zs,μ1,R0,S,e1,λι1 H1 E1 R1 vs i1=>?_⟩;unfold KG at e2;split at e2
  ·rename_i d1 d2;obtain⟨xs,ν1,e3,e4⟩:=AI e2;obtain⟨ys,ν2,e5,e6⟩:=AI e4;obtain⟨v,u,rfl,i2,i3⟩:=LE i1;obtain⟨hm1,n1,rfl,g1⟩:=O5 e3;subst hm1;obtain⟨hm2,n2,rfl,g2⟩:=O5 e5;subst hm2;split at e6
   ·rename_i hl;cases e6;unfold Is at i2 i3;obtain⟨l1,rfl⟩:=i2;obtain⟨l2,rfl⟩:=i3;obtain⟨vs,s1,j1⟩:=Nf R1 g1;obtain⟨ws,s2,j2⟩:=Nf R1 g2;refine⟨.l,.l,ι1 n1,ι1 n2,vs,ws,rfl,s1,s2,q ι1 H1 E1 R1 _ λι3 H3 E3 R3=>?_⟩;obtain⟨vs',s1',j1'⟩:=Nf R3 g1;obtain⟨ws',s2',j2'⟩:=Nf R3 g2;rw[E3.agree n1 l1] at s1';rw[E3.agree n2 l2] at s2';have hl':ws'.length=vs'.length:=by rw[j1'.length,j2'.length,hl]
    rw[ID hl,←j1'.length];exact⟨λk hk=>⟨vs',ws',s1',s2',hl',hk⟩,⟨vs',ws',s1',s2',hl',rfl⟩,λk x H2 d hd y=>YY (k1:=.l) (k2:=.l) R3 s1' s2' j1' j2' hd y⟩
   ·cases e6
  ·cases e2⟩
noncomputable def Qv:List D->M (List D)
 |[.lst ds]=>ret ds.reverse
 |_=>BO
noncomputable def Vg(m:Sl->M (List D)):Sl->M (List D):=λτ=>bnd (m τ) Qv
theorem XD(hm:X.mg "reversed" = none)(ha:RA X [a] m)(hg:Gl X "reversed" := by rfl)(hs:starEach [a] X.env=[(false,eval a X.env)]:=by rfl):RI X tg (.Call (.Name "reversed" p) [a] [] pos) (Vg m):=
 RI.wk (Xa hg hm ha.pe hs) λσ H R q=>by
  obtain⟨ι,μ,τ,ds,μ',R0,S,e,q⟩:=q;obtain⟨zs,μ1,e1,e2⟩:=AI e;refine⟨ι,μ,τ,zs,μ1,R0,S,e1,λι1 H1 E1 R1 vs i1=>?_⟩;unfold Qv at e2;split at e2
  ·rename_i xs;cases e2;obtain⟨v,rfl,i2⟩:=Es i1;unfold Is at i2;obtain⟨p,vs,rfl,h1,hn,h2⟩:=i2;refine⟨p,vs,rfl,SqL.of h1,q ι1 H1 E1 R1 _ λι' ν H' E R'=>?_⟩;have sq:SqL X.kw H' p vs:=SqL.of (E.keep p _ h1 hn);rw[List.length_reverse,←h2.length];refine⟨λj hj=>⟨hj,sq⟩,⟨rfl,sq⟩,λj x H2 d hd y=>?_⟩;obtain⟨rfl,y⟩:=y;obtain⟨v,ev,iv⟩:=(h2.ext E).reverse.get hd;rw[ev] at y;cases y;exact⟨R'.ext0,R',iv⟩
  ·cases e2
noncomputable def Uw(d k:D):M D:=match d,k with
 | .tup [x,y],.int i=>if i=-1 then ret (.tup [y,x]) else BO
 |_,_=>BO
theorem XF(he:RE X e m)(hst:RE X st ms):RE X (.Subscript e (.Slice none none (some st) p2) pos) (mOp Uw m ms):=RE.wk (Xb he.pe hst.pe) λσ H Q h=>by
 obtain⟨ι,μ,τ,d,μ',R,S,ev,q⟩:=h;obtain⟨x,μ1,e1,e2⟩:=AI ev;obtain⟨y,μ2,e3,e4⟩:=AI e2;refine⟨ι,μ,τ,x,μ1,R,S,e1,λι1 H1 E1 R1 v1 i1=>⟨ι1,μ1,τ,y,μ2,R1,S.ext E1,e3,λι2 H2 E2 R2 v2 i2=>?_⟩⟩;unfold Uw at e4;split at e4
 ·split at e4
  ·rename_i hi;subst hi;cases e4;have i1:=i1.ext E2;unfold Is at i1;obtain⟨p,vs,rfl,h1,h2⟩:=i1;obtain⟨w1,w2,rfl,j1,j2⟩:=LE h2;exact⟨CC i2,p,w1,w2,rfl,h1,λp hp=>Vm R2 (.cons j2 (.one j1)) (λι3 H3 E3 R3=>q ι3 H3 ((E1.trans E2).trans E3) R3) p hp⟩
  ·cases e4
 ·cases e4
noncomputable def Ro:D->List D->M D
 | .ref n,[.tup zs]=>FI n λds=>if ds.length+zs.length<=sizeLine then some (.non,ds++zs) else none
 |d,as=>Lg d as
theorem So:MtR X "list.extend" (rMM X.kw Ro):=λpins s σ H x xs v us Q I rx rs h=>by
 obtain⟨ι,μ,a,as,d,μ',R,ia,ib,e,q⟩:=h;unfold Ro at e;split at e
 ·rename_i n zs;obtain⟨ds,es,h1,h2,rfl⟩:=FV e;split at h2
  ·rename_i hl;cases h2;obtain⟨w,rfl,iw⟩:=Es ib;unfold Is at ia iw;obtain⟨_,rfl⟩:=ia;obtain⟨p,ws,rfl,k1,k2⟩:=iw;obtain⟨u,g1,vs,rfl,g2⟩:=R.obj n _ h1;cases rx;obtain⟨u,rfl,ru⟩:=EQ rs;cases ru;obtain⟨z,its,m,r,hl1,e⟩:=I.lstM g1;obtain⟨jts,r2,⟨o,ho,hc,m2,hd⟩,_⟩:=I.tuple k1;have hs:vs.length+ws.length<=sizeLine:=by rw[g2.length,k2.length];exact hl
   have hj:=r2.length;refine call_meets PySem.F.slot_list_extend ⟨_,e,rfl⟩ PySem.F.entry_list_extend (PySem.F.args_list_extend_2 _ _) (QA (n:=m) hc hd (by rw[List.size_toArray,List.size_toArray];omega)) ⟨e,ho,?_⟩;exact⟨.non,_,I.lset (its':=its++jts) g1 e (by simp) (r.append r2) (by rw[AAG];exact hs),rfl,IQ R h1 (g2.append k2) ofN q⟩
  ·cases h2
 ·exact Gf pins s σ H x xs v us Q I rx rs ⟨ι,μ,a,as,d,μ',R,ia,ib,e,q⟩
noncomputable def kgF(t:Str->Option D):List D->M D
 |[.str y]=>ret ((t y).getD .non)
 |[.str y,z]=>ret ((t y).getD z)
 |_=>BO
theorem Yg(k:Tf X.w X.kw X.mg x t)(ha:RA X (e::es) m)(hg:Gl X x:=by rfl)(hdb:(x==("__debug__" : Str))=false:=by decide)
  (hbase:attributeBase (.Name x p) "get" X.env (eval (.Name x p) X.env)=eval (.Name x p) X.env:=by rfl)
  (hfew:((backTo cpos (starEach (e::es) X.env)).all (λx=>!x.1)&&(backToKw cpos (keywordEach [] X.env)).all (λx=>x.1.isSome)
   && decide ((e::es).length+([]:List Keyword).length+(if ([]:List Keyword).isEmpty then 0 else 1)<30))=true:=by rfl)
  (hline:(apos.endLine==cpos.line)=true:=by rfl) (hs:starEach (e::es) X.env=(false,eval e X.env)::starEach es X.env:=by exact BH rfl) (hplain:(backTo cpos (starEach es X.env)).any (·.1)=false:=by exact BY rfl) :
  RE X (.Call (.Attribute (.Name x p) "get" apos) (e::es) [] cpos) (AF (kgF t) m):=by
 obtain⟨ad,hm,kk⟩:=k;obtain⟨_,⟨_,es0,n0,_,_,hl0,_⟩,_⟩:=kk Str.empty;refine RE.wk (cQ hl0 (J5 (v:=.ref ad) hg hm rfl hdb) ha.pe hbase hfew hline hs hplain) λ_ _ _ q=>Fv q λι μ μ' H ds vs d R i ev q=>?_;unfold kgF at ev;split at ev
 ·rename_i y;obtain⟨v,rfl,i1⟩:=Es i;cases B1 i1;obtain⟨r,g,z⟩:=kk y;cases ev;refine⟨_,r,g,.inl ⟨rfl,?_⟩⟩;rcases z with ⟨z1,rfl⟩|⟨d0,v0,z1,rfl,z3⟩
  ·rw[z1] at q;exact q ι H R.ext0 R _ ofN
  ·rw[z1] at q;exact q ι H R.ext0 R _ (z3 _ _ _)
 ·rename_i y z0;obtain⟨v,v',rfl,i1,i2⟩:=LE i;cases B1 i1;obtain⟨r,g,z⟩:=kk y;cases ev;refine⟨_,r,g,.inr ⟨_,rfl,?_⟩⟩;rcases z with ⟨z1,rfl⟩|⟨d0,v0,z1,rfl,z3⟩
  ·rw[z1] at q;exact q ι H R.ext0 R _ i2
  ·rw[z1] at q;exact q ι H R.ext0 R _ (z3 _ _ _)
 ·cases ev
theorem U0(F:Ini X.prog X.w X.kw X.mg X.base c ps k φ)(hr:Room j X.A)(hkj:k+1<=j:=by decide)(hg:Gl X c:=by rfl)(hdb:(c==("__debug__" : Str))=false:=by decide):RE X (.Call (.Name c p) [] [] pos) (AF (K4 c φ) AJ):=by
 obtain⟨len,C,f,fd,hc,hm,M,F,hb⟩:=F;refine RE.wk (VM M F (hr.mono hkj) hg hm hb .nil Q9 hdb) λσ H Q h=>?_;obtain⟨ι,μ,τ,d,μ',R,S,ev,q⟩:=h;intro x dx hx hdx hne;have ev:K4 c φ [] μ=some (d,μ'):=ev;unfold K4 at ev;split at ev
 ·rename_i μ1 hφ;cases ev;obtain⟨E1,R1⟩:=R.laid (.own x) hdx;have hx1:upd H dx (.own x) x=none:=by rw[BG (Ne.symm hne)];exact hx
  obtain⟨ι',E2,R2,e0⟩:=R1.grown (m:=.ins c []) (o:=.ins C dx []) hx1 ⟨C,dx,[],rfl,hc,Bt,rfl⟩;have hlen:=len _ _ _ hφ;refine⟨hlen,ι',_,_,_,_,R2,.one (v:=.ref x) (by unfold Is;exact⟨by simp,by rw[e0]⟩),hφ,λι3 H3 E3 R3 v iv=>?_⟩;unfold Is at iv;refine⟨iv,q ι3 H3 ((E1.trans E2).trans E3) R3 (.ref x) ?_⟩;unfold Is;have hl:μ.length<(μ++[MO.ins c []]).length:=by simp
  exact⟨AAM hl E3.le,by rw[E3.agree _ hl,e0]⟩
 ·cases ev
theorem Uz(F:Mth X.prog X.w X.kw X.mg X.base c mm ps k φ)(hr:Room j X.A)(ho:RE X o mo)(hkj:k<=j:=by decide)
  (ht:eval (.Call (.Attribute o mm apos) [] [] pos) X.env=(do
   let ov ←eval o X.env
   standAt apos.atName
   let (f,first) ←holding [ov] (getMethod ov mm pl)
   callWith pos f first (backTo pos (starEach [] X.env)) (backToKw pos (keywordEach [] X.env))):=by rfl):RE X (.Call (.Attribute o mm apos) [] [] pos) (F3 c mm φ mo AJ):=by
 obtain⟨len,C,f,fd,ca,M,F,hb⟩:=F;refine RE.wk (VL (pl:=pl) ho.pe ca.cl M F (hr.mono hkj) hb .nil Q9 ht) λσ H Q h=>?_;obtain⟨ι,μ,τ,d,μ',R,S,ev,q⟩:=h;obtain⟨x,μ1,e1,e2⟩:=AI ev;obtain⟨r,μ2,e3,e4⟩:=AI e2;refine⟨ι,μ,τ,x,μ1,R,S,e1,λι1 H1 E1 R1 v1 i1=>?_⟩;obtain⟨hm,ex,g1,rfl,C',dx,fs,g2,g3,g4,g5⟩:=GA R1 i1 e3;subst hm;cases ca.at_.eq g3;split at e4
 ·rename_i hl;have e4:φ [x] μ2=some (d,μ'):=e4;have hlen:=len _ _ _ e4;exact⟨_,dx,fs,rfl,g2,g5.none hl,hlen,ι1,_,_,_,_,R1,.one i1,e4,λι3 H3 E3 R3 v iv=>q ι3 H3 (E1.trans E3) R3 v iv⟩
 ·cases e4
noncomputable def N3:List D->Option (List String)
 |[]=>some []
 | .ty n::ds=>(N3 ds).map (n::·)
 |_=>none
noncomputable def IA(t:String):List String->Option Bool
 |[]=>some false
 |T::r=>match FD t T with
  |some true=>some true
  |some false=>IA t r
  |none=>none
noncomputable def P5:List D->M D
 |[.int i,.tup ts]=>λμ=>((N3 ts).bind (IA "int")).map λb=>(.bl b,μ)
 |[.str x,.tup ts]=>λμ=>((N3 ts).bind (IA "str")).map λb=>(.bl b,μ)
 |ds=>DC ds
theorem JG:∀{ds:List D} {vs:List V} {us:List Value} {ts:List String},IsL K ι k H ds vs->Vals vs us->N3 ds=some ts->us=ts.map Value.type
 |[],_,_,_,i,r,e=>by cases e;unfold IsL at i;subst i;cases r;rfl
 |d::ds,_,_,_,i,r,e=>by
  unfold IsL at i;obtain⟨v,vs',rfl,i1,i2⟩:=i;cases r with
  |cons r1 r2=>
   cases d with
   |ty n=>
    have e':(N3 ds).map (n::·)=some _:=e;cases q:N3 ds with
    |none=>rw[q] at e';cases e'
    |some ts'=>
     rw[q] at e';cases e';unfold Is at i1;subst i1;cases r1;rw[JG i2 r2 q];rfl
   |_=>cases e
theorem Hq{K:KW}:∀{ts:List String} {b:Bool},IA t ts=some b->PySem.W.kitAny K (.type t) (ts.map Value.type)=some b
 |[],b,h=>by cases h;rfl
 |T::r,b,h=>by
  unfold IA at h;show (match PySem.W.kitOne K (.type t) (.type T) with|some true=>some true|some false=>PySem.W.kitAny K (.type t) (r.map Value.type)|none=>none)=_;cases hs:FD t T with
  |none=>rw[hs] at h;cases h
  |some c=>
   rw[hs] at h;rw[Ra hs];cases c with
   |true=>exact h
   |false=>exact Hq h
theorem YO:Cd X (.builtin "isinstance") (rMA X.kw P5):=λpins s σ H xs us Q I r h=>by
 obtain⟨ι,μ,as,d,μ',R,ia,e,q⟩:=h;unfold P5 at e;split at e
 ·rename_i i ts;obtain⟨v,v',rfl,i1,i2⟩:=LE ia;cases CC i1;cases ht:N3 ts with
  |none=>rw[ht] at e;cases e
  |some tl=>
   rw[ht,Option.bind_some] at e;cases hb:IA "int" tl with
   |none=>rw[hb] at e;cases e
   |some b=>
    rw[hb] at e;cases e;unfold Is at i2;obtain⟨p,vs,rfl,h1,h2⟩:=i2;obtain⟨u1,u2,rfl,⟨t,rfl⟩,r2⟩:=Lu r;cases r2;obtain⟨its,rv,⟨⟨oc,od,odt,osl⟩,g1,g2,n,g3⟩,_⟩:=I.tuple h1;dsimp only at g2 g3;subst g2 g3;have et:=JG h2 rv ht;subst et;exact PySem.W.kia_tup PySem.W.kitx_int I.kIn trivial g1 (Hq (K:=X.kw) hb) (λz=>nomatch z) λtk=>⟨.bl b,H,I.tok _,rfl,q ι H R.ext0 R _ (ofB b)⟩
 ·rename_i x ts;obtain⟨v,v',rfl,i1,i2⟩:=LE ia;cases B1 i1;cases ht:N3 ts with
  |none=>rw[ht] at e;cases e
  |some tl=>
   rw[ht,Option.bind_some] at e;cases hb:IA "str" tl with
   |none=>rw[hb] at e;cases e
   |some b=>
    rw[hb] at e;cases e;unfold Is at i2;obtain⟨p,vs,rfl,h1,h2⟩:=i2;obtain⟨u1,u2,rfl,⟨t,rfl⟩,r2⟩:=Lu r;cases r2;obtain⟨its,rv,⟨⟨oc,od,odt,osl⟩,g1,g2,n,g3⟩,_⟩:=I.tuple h1;dsimp only at g2 g3;subst g2 g3;have et:=JG h2 rv ht;subst et;exact PySem.W.kia_tup PySem.W.kitx_str I.kIn trivial g1 (Hq (K:=X.kw) hb) (λz=>nomatch z) λtk=>⟨.bl b,H,I.tok _,rfl,q ι H R.ext0 R _ (ofB b)⟩
 ·exact D5 pins s σ H xs us Q I r ⟨ι,μ,as,d,μ',R,ia,e,q⟩
theorem M5(co:Option Expr)(k:Nat)(pc:Pu mc)(pm:Pu me)(hN:X.N.Nodup)(S:BScope X scope tgs ix)(hc:X.calm=true)(hi:RIP X (.Tuple es kk tp) iter src)(hg:∀fp C s H,PGs (cxB X scope tgs fp C s H) es (F5 is))(hif:∀fp C s H,WY (cxB X scope tgs fp C s H) co (tT X.kw mc))(he:∀fp C s H,RE (cxB X scope tgs fp C s H) elt me)
  (hfin:∀ι μ μ' H ds vs d (Q:VK),RelH X.kw ι μ H->IsL X.kw ι μ.length H ds vs->fin ds μ=some (d,μ')->(Aft X.kw ι μ H μ' λι' H'=>∀v,Is X.kw ι' μ'.length H' d v->Q v H')->vs.length<=sizeLine/\∀p,H p=none->Q (.ref p) (upd H p (.lst vs)))
  (hlen:∀fp C s H,(assignEach es (cxB X scope tgs fp C s H).env).length=is.length:=by intro _ _ _ _;rfl) (hst:∀fp C s H,(assignEach es (cxB X scope tgs fp C s H).env).findIdx? (·.1)=none:=by intro _ _ _ _;rfl)
  (hiN:X.N[k]?=some y:=by rfl) (hy:X.env.scope.names.lookup y=some .local:=by rfl) (hin:∀i∈is,i<tgs.length:=by decide) (hn:tgs.length=n:=by rfl)
  (hsw:swapsWith (.ListComp elt [⟨.Tuple es kk tp,iter,co.toList,0⟩] scope pos) (some (.Name y py)) spos.line X.env=pure true:=by rfl) (hs:∀x,foldedSetIterable iter X.env x=pure x:=by intro _;rfl) :
  RS X (.Assign [.Name y py] (.ListComp elt [⟨.Tuple es kk tp,iter,co.toList,0⟩] scope pos) spos) (As (Bi n ix src (DT is) mc me fin) (AM k)):=
 RS.wk (Jm co (te:=tE X.kw me) hN hiN hy S hc hi.pe (λfp C s H=>Pn (X:=cxB X scope tgs fp C s H) hc (hg fp C s H) (hlen fp C s H) (hst fp C s H)) (V5 hin) hif (λfp C s H=>(he fp C s H).pe) hsw hs) λDn σ H h=>by
  obtain⟨ι,μ,τ,f,τ',μ',R,S,e,q⟩:=h;obtain⟨x,μ1,e1,e⟩:=AI e;obtain⟨τ1,μ2,e2,e⟩:=AI e;cases e2;cases e;refine SN YS pc pm hn (λ_ _ _ _ h=>UV h) hfin ⟨ι,μ,τ,x,_,R,S,e1,λι1 H1 E1 R1 v i1=>?_⟩;exact q ι1 H1 E1 R1 _ ((S.ext E1).set k i1)
open Classical in
noncomputable def Kw(φ:List D->M D):List D->M D:=λds μ=>match φ ds μ with
 |some (d,μ')=>if μ'=μ then some (d,μ) else none
 |none=>none
theorem Kv(h:Kw φ ds μ=some r):φ ds μ=some r/\r.2=μ:=by
 unfold Kw at h;split at h
 ·rename_i d μ' e;split at h
  ·rename_i c;cases h;rw[e,c];exact⟨rfl,rfl⟩
  ·cases h
 ·cases h
theorem U7:Pu1 (Kw φ):=λds μ a μ' e=>(Kv e).2
theorem ZY(F:Fn X.prog X.w X.kw X.mg X.base x ps k φ)(hr:Room j X.A)(ha:RA X (e::es) m)(hkj:k<=j:=by decide)(hg:Gl X x:=by rfl)(hdb:(x==("__debug__" : Str))=false:=by decide)
  (he:starEach (e::es) X.env=(false,eval e X.env)::starEach es X.env:=by exact BH rfl) (hpl:(backTo pos (starEach es X.env)).any (·.1)=false:=by exact BY rfl):RE X (.Call (.Name x p) (e::es) [] pos) (AF (Kw φ) m):=by
 refine RE.wk (AS (p:=p) (pos:=pos) (hkj:=hkj) F hr ha hg hdb he hpl).pe λσ H Q h=>?_;obtain⟨ι,μ,τ,d,μ',R,S,ev,q⟩:=h;obtain⟨as,μ1,e1,e2⟩:=AI ev;exact⟨ι,μ,τ,d,μ',R,S,(AO e1).trans (Kv e2).1,q⟩
theorem Q3:Pu1 BU:=λds μ a μ' e=>by
 obtain⟨u,μ1,e1,e2⟩:=AI e;cases e2;exact(CG e1).2
theorem XO:Pu1 BE:=λds μ a μ' e=>by
 obtain⟨u,μ1,e1,e2⟩:=AI e;cases e2;exact(CG e1).2
theorem Sa:Pu1 C8:=λds μ a μ' e=>by
 unfold C8 at e;split at e
 ·cases e;rfl
 ·obtain⟨xs,μ1,e1,e2⟩:=AI e;cases e2;exact Mg e1
 ·cases e
theorem XQ:Pu2 BK:=λx y μ a μ' e=>by
 unfold BK at e;split at e
 ·cases e;rfl
 ·unfold Bf at e;split at e
  ·cases e;rfl
  ·obtain⟨u,μ1,e1,e2⟩:=AI e;cases e2;exact(CG e1).2
  ·exact XO _ _ _ _ e
  ·cases e
  ·exact Q3 _ _ _ _ e
  ·cases e
end
end Mi
local macro_rules | `(tactic| wtm_at "j")=>`(tactic| repeat first|exact Mi.Q2|exact Mi.cK|exact Mi.Q0|exact Mi.U8|exact Mi.XQ|exact Mi.Q3|exact Mi.Sa|exact Mi.U7|exact Mi.Yj|exact Mi.U9|apply Mi.Q1|apply Mi.Yi|apply Mi.Q4|apply Mi.Q5)
namespace Mi
open PySem L2
end Mi
namespace Xc
open PySem L2 Mi
open PyProof.Rows (AllBare)
end Xc
namespace Xc
open PySem L2 Mi
end Xc
namespace Mi
open PySem PySem.W PyProof.Rows L2
noncomputable def M8(a b:D):M D:=match a,b with
 | .ref n,.lst bs=>λμ=>match μ[n]? with
  |some (.lst as)=>Dq (as++bs) μ
  |_=>none
 | .lst as,.lst bs=>Dq (as++bs)
 |_,_=>BO
section
variable{X:Cx}
theorem aG:OpR X (binaryOp .Add) (rM X.kw M8):=λpins s σ H x y v u Q I rx ry h=>by
 obtain⟨ι,μ,a,b,d,μ',R,ia,ib,e,q⟩:=h;unfold M8 at e;split at e
 ·rename_i n bs;split at e
  ·rename_i as hn;obtain⟨w,hu,o⟩:=R.obj n _ hn;obtain⟨vs,rfl,iv⟩:=o;unfold Is at ia ib;obtain⟨hk,rfl⟩:=ia;obtain⟨p',vs',rfl,h1',hn',h2'⟩:=ib;obtain⟨hl,w⟩:=NH R (iv.append h2') e q;exact NF pins s σ H _ _ v u Q I rx ry ⟨_,p',vs,vs',rfl,rfl,hu,h1',by rw[←AAG];exact hl,w⟩
  ·cases e
 ·rename_i as bs;unfold Is at ia ib;obtain⟨p,vs,rfl,h1,hn,h2⟩:=ia;obtain⟨p',vs',rfl,h1',hn',h2'⟩:=ib;obtain⟨hl,w⟩:=NH R (h2.append h2') e q;exact NF pins s σ H _ _ v u Q I rx ry ⟨p,p',vs,vs',rfl,rfl,h1,h1',by rw[←AAG];exact hl,w⟩
 ·cases e
end
end Mi
namespace Sq
open PySem PySem.W PyProof.Rows
end Sq
namespace Nk
open PySem PySem.Spec PyProof.Rows HT
end Nk
set_option maxHeartbeats 4000000
namespace Nk
open PySem PySem.Spec PyProof.Rows Ht
end Nk
namespace Nk
open PySem PySem.Spec PyProof.Rows L2 Mi
end Nk
namespace Mi
open PySem L2 Ht Nk
end Mi
namespace Nk
open PySem PySem.Spec PyProof.Rows PySem.SeqAt
end Nk
namespace Mi
open PySem L2 Ht Nk
section
variable{X:Cx}{e:Expr}
noncomputable def Sc:D->List D->M D
 | .ref n,[]=>FI n λds=>(ds[ds.length-1]?).map λd=>(d,ds.dropLast)
 |_,_=>BO
theorem IsL.dropLast(h:IsL K ι k H ds vs):IsL K ι k H ds.dropLast vs.dropLast:=by
 rw[List.dropLast_eq_take,List.dropLast_eq_take,h.length];exact h.take _
theorem Ve:MtR X "list.pop" (rMM X.kw Sc):=λpins s σ H x xs v us Q I rx rs h=>by
 obtain⟨ι,μ,a,as,d,μ',R,ia,ib,e,q⟩:=h;unfold Sc at e;split at e
 ·rename_i n;obtain⟨ds,es,h1,h2,rfl⟩:=FV e;cases hd:ds[ds.length-1]? with
  |none=>rw[hd] at h2;cases h2
  |some d0=>
   rw[hd] at h2;cases h2;unfold IsL at ib;subst ib;unfold Is at ia;obtain⟨_,rfl⟩:=ia;obtain⟨u,g1,vs,rfl,g2⟩:=R.obj n _ h1;obtain⟨w,ew,iw⟩:=g2.get hd;refine aK pins s σ H _ _ v us Q I rx rs ⟨_,vs,w,rfl,rfl,g1,by rw[g2.length];exact ew,?_⟩;exact IQ R h1 g2.dropLast iw q
 ·cases e
end
end Mi
namespace Mi
open PySem L2 Ht Nk PySem.SeqAt
end Mi
namespace K5
open PySem L2 Mi K1
noncomputable def JY:D:=.str "0123456789"
noncomputable def Gp:D:=.int 3
noncomputable def KZ:List (Str×List Str):=[("makes",["kind", "number", "number"]),("box",["name", "kind", "number", "number", "name"]),("hand",["name", "number"])]
noncomputable def EU:Str->Option D:=Mz KZ
noncomputable def Ep  : Sl->M (Fl×Sl):=
  (AQ (Jk "Reading" "made" (AD 0) (mC .non))
  (AQ (Jk "Reading" "boxes" (AD 0) (AF Dq AJ))
  (AQ (Jk "Reading" "hands" (AD 0) (AF Dq AJ))
  (Jk "Reading" "programs" (AD 0) (AF Dq AJ)))))
noncomputable def Bh  : Sl->M (Fl×Sl):=
  (AQ (sIf (AR (mOp A3 (AD 1) (mC (.str "makes")))) (Ar (mOp (FL false) (mUn (Et "Reading" "made") (AD 0)) (mC .non))) A1)
  (AQ (sIf (AR (mOp (FL false) (mUn (Et "Reading" "made") (AD 0)) (mC .non))) (Ar (mC (.bl false))) A1)
  (AQ (sIf (AR (mOp A3 (AD 1) (mC (.str "box")))) (Ar (Dt (mOp A3 (AF Bq (AC (mUn (Et "Reading" "hands") (AD 0)) AJ)) (mC (.int 0))) (mOp Ez (AF Bq (AC (mUn (Et "Reading" "boxes") (AD 0)) AJ)) (mC Eb)))) A1)
  (AQ (sIf (AR (mOp A3 (AD 1) (mC (.str "hand")))) (Ar (mOp Ez (AF Bq (AC (mUn (Et "Reading" "hands") (AD 0)) AJ)) (mC Ea))) A1)
  (Ar (Dt (mOp M7 (AF Bq (AC (mUn (Et "Reading" "hands") (AD 0)) AJ)) (mC (.int 0))) (mOp Ez (AF Bq (AC (mOp AU (mUn (Et "Reading" "programs") (AD 0)) (mUn Qz (mC (.int 1)))) AJ)) (mC EK))))))))
noncomputable def C3  : Sl->M (Fl×Sl):=
  (sIf (AR (mOp A3 (mOp AU (AD 1) (mC (.int 0))) (mC (.str "makes")))) (Jk "Reading" "made" (AD 0) (Ie (AD 1) (CQ (mC (.int 1))) Bp)) (sIf (AR (mOp A3 (mOp AU (AD 1) (mC (.int 0))) (mC (.str "box")))) (Ag (BB FQ (mUn (Et "Reading" "boxes") (AD 0)) (AC (Ie (AD 1) (CQ (mC (.int 1))) Bp) AJ))) (sIf (AR (mOp A3 (mOp AU (AD 1) (mC (.int 0))) (mC (.str "hand")))) (AQ (Ag (BB FQ (mUn (Et "Reading" "hands") (AD 0)) (AC (Ie (AD 1) (CQ (mC (.int 1))) Bp) AJ)))
  (Ag (BB FQ (mUn (Et "Reading" "programs") (AD 0)) (AC (AF Dq AJ) AJ)))) (Ag (BB FQ (mOp AU (mUn (Et "Reading" "programs") (AD 0)) (mUn Qz (mC (.int 1)))) (AC (AD 1) AJ))))))
noncomputable def Ds  : Sl->M (Fl×Sl):=
  (AQ (As (Bi 2 [] (OW O6 (AC (mUn (Et "Reading" "hands") (AD 0)) (AC (mUn (Et "Reading" "programs") (AD 0)) AJ))) (DT [0,1]) Bu (mOp BK (AD 0) (AF BU (AC (AF C8 (AC (AD 1) AJ)) AJ))) BE) (AM 1))
  (Ar (mOp BK (mUn (Et "Reading" "made") (AD 0)) (AF BU (AC (AF C8 (AC (mUn (Et "Reading" "boxes") (AD 0)) AJ)) (AC (AF C8 (AC (AD 1) AJ)) AJ))))))
noncomputable def Gc(fm:List D->M D):Sl->M (Fl×Sl):=
  (AQ (As (AF Dq (AC (mOp BK (AF BU (AC (mC (.str "makes")) AJ)) (Ie (AD 0) Bp (CQ (mC (.int 3))))) AJ)) (AM 1))
  (AQ (Du (Dw (mOp AU (AD 0) (mC (.int 3)))) (AM 2) (Ag (BB FQ (AD 1) (AC (mOp BK (AF BU (AC (mC (.str "box")) AJ)) (AD 2)) AJ))))
  (AQ (Du (Dw (mOp AU (AD 0) (mC (.int 4)))) (AM 3) (AQ (Ag (BB FQ (AD 1) (AC (mOp BK (AF BU (AC (mC (.str "hand")) AJ)) (Ie (AD 3) Bp (CQ (mC (.int 2))))) AJ)))
  (Ag (BB Ro (AD 1) (AC (mOp AU (AD 3) (mC (.int 2))) AJ)))))
  (Ar (Dy DY (mC (.str "\n")) (AC (Bi 1 [] (Ic (AD 1)) (AM 0) Bu (AF (Kw fm) (AC (AD 0) AJ)) BE) AJ))))))
noncomputable def Gb(fI:List D->M D)(fS:List D->M D):Sl->M (Fl×Sl):=
  (AQ (As (AF Dq (AC (mOp AU (AD 0) (mC (.int 0))) AJ)) (AM 1))
  (AQ (Du (Dw (AF fI (AC (mOp AU (AD 0) (mC (.int 0))) (AC (Ie (AD 0) (CQ (mC (.int 1))) Bp) AJ)))) (AM 2) (Ag (BB Lg (AD 1) (AC (AF fS (AC (AD 2) AJ)) AJ))))
  (Ar (Dy DY (mC (.str " ")) (AC (AD 1) AJ)))))
noncomputable def En  : Sl->M (Fl×Sl):=
  (Ar (mIf (AR (mOp A3 (AD 0) (mC (.str "unless")))) (mOp Uw (AD 1) (mUn Qz (mC (.int 1)))) (AD 1)))
noncomputable def DN(fS:List D->M D):Sl->M (Fl×Sl):=
  (AQ (sIf (Fa (AR (AF DC (AC (AD 0) (AC (mC (.ty "tuple")) AJ))))) (Ar (AF BE (AC (AF IR (AC (AD 0) AJ)) AJ))) A1)
  (AQ (sIf (AR (mOp (Co false) (mOp AU (AD 0) (mC (.int 0))) (AF BU (AC (mC (.str "num")) (AC (mC (.str "var")) AJ))))) (Ar (AF BE (AC (AF IR (AC (mOp AU (AD 0) (mC (.int 1))) AJ)) AJ))) A1)
  (AQ (As (AF Dq (AC (mOp AU (AD 0) (mC (.int 0))) AJ)) (AM 1))
  (AQ (Du (Dw (Ie (AD 0) (CQ (mC (.int 1))) Bp)) (AM 2) (Ag (BB Lg (AD 1) (AC (AF fS (AC (AD 2) AJ)) AJ))))
  (Ar (AD 1))))))
noncomputable def HP(fU:List D->M D)(fv:List D->M D)(fT:List D->M D)(fb:List D->M D)(fR:List D->M D)(fc:List D->M D):Sl->M (Fl×Sl):=
  (AQ (sIf (Fa (AR (AF DC (AC (AD 0) (AC (mC (.ty "str")) AJ))))) JJ A1)
  (AQ (As (Dy Hc (AD 0) (AC (mC (.str "\n")) AJ)) (AM 1))
  (AQ (As (AF (K4 "Reading" fU) AJ) (AM 2))
  (AQ (Du (OZ (AC (AD 1) AJ)) (DT [3,4]) (AQ (As (AF fv (AC (AD 4) AJ)) (AM 5))
  (AQ (sIf (mOr (AR (mOp (FL false) (AD 5) (mC .non))) (Fa (AR (F3 "Reading" "lets_stand" fT (AD 2) (AC (mOp AU (AD 5) (mC (.int 0))) AJ))))) JJ A1)
  (Ag (F3 "Reading" "take" fb (AD 2) (AC (AD 5) AJ))))))
  (AQ (sIf (AR (mOp Ez (AF Bq (AC (mUn (Et "Reading" "hands") (AD 2)) AJ)) (mC EG))) JJ A1)
  (AQ (As (F3 "Reading" "told_making" fR (AD 2) AJ) (AM 6))
  (AQ (Ag (AF fc (AC (AD 6) AJ)))
  (Ar (AD 6)))))))))
noncomputable def Hn(fI:List D->M D)(fi:List D->M D):Sl->M (Fl×Sl):=
  (AQ (As (Dy Hc (AD 0) (AC (mC (.str " ")) AJ)) (AM 1))
  (AQ (As (AF (kgF EU) (AC (mOp AU (AD 1) (mC (.int 0))) (AC (AF (kgF Bc) (AC (mOp AU (AD 1) (mC (.int 0))) AJ)) AJ))) (AM 2))
  (AQ (sIf (AR (mOp (FL false) (AD 2) (mC .non))) (Ar (mC .non)) A1)
  (AQ (As (AF fi (AC (AF fI (AC (mOp AU (AD 1) (mC (.int 0))) (AC (AD 2) AJ))) (AC (Ie (AD 1) (CQ (mC (.int 1))) Bp) AJ))) (AM 3))
  (AQ (sIf (AR (mOp (FL false) (AD 3) (mC .non))) (Ar (mC .non)) A1)
  (Ar (mOp BK (AF BU (AC (mOp AU (AD 1) (mC (.int 0))) AJ)) (AF fI (AC (mOp AU (AD 1) (mC (.int 0))) (AC (AF C8 (AC (AD 3) AJ)) AJ))))))))))
noncomputable def F1(fu:List D->M D):Sl->M (Fl×Sl):=
  (AQ (sIf (AR (mOp (Co false) (mC (.str "expression")) (AD 0))) (AQ (As (mOp Em (AF Bq (AC (AD 0) AJ)) (mC (.int 1))) (AM 2))
  (As (mOp BK (Ie (AD 1) Bp (CQ (AD 2))) (AF BE (AC (Ie (AD 1) (CQ (AD 2)) Bp) AJ))) (AM 1))) A1)
  (AQ (sIf (AR (mOp Cj (AF Bq (AC (AD 1) AJ)) (AF Bq (AC (AD 0) AJ)))) (Ar (mC .non)) A1)
  (AQ (As (Bi 2 [] (OW HW (AC (AD 0) (AC (AD 1) AJ))) (DT [0,1]) Bu (AF fu (AC (AD 0) (AC (AD 1) AJ))) BE) (AM 3))
  (Ar (mIf (AR (AF WX (AC (Bi 1 [] (Dw (AD 3)) (AM 0) Bu (mOp (FL false) (AD 0) (mC .non)) BE) AJ))) (mC .non) (AD 3))))))
noncomputable def EJ(fV:List D->M D)(fg:List D->M D)(fE:List D->M D):Sl->M (Fl×Sl):=
  (AQ (sIf (AR (mOp A3 (AD 0) (mC (.str "expression")))) (Ar (AF fV (AC (AD 1) AJ))) A1)
  (AQ (sIf (AR (mOp (Co false) (AD 0) (AF BU (AC (mC (.str "number")) (AC (mC (.str "target")) AJ))))) (Ar (AF fg (AC (AD 1) (AC (mC Gp) AJ)))) A1)
  (AQ (sIf (AR (mOp A3 (AD 0) (mC (.str "kind")))) (Ar (mIf (AR (mOp (Co false) (AD 1) (mC KB))) (AD 1) (mC .non))) A1)
  (Ar (mIf (AR (AF fE (AC (AD 1) AJ))) (AD 1) (mC .non))))))
noncomputable def HN  : Sl->M (Fl×Sl):=
  (AQ (sIf (mOr (Fa (AR (Er Kt Kt (mC (.int 1)) (AF Bq (AC (AD 0) AJ)) (AD 1)))) (Fa (AR (AF O7 (AC (Bi 1 [] (OX (AD 0)) (AM 0) Bu (mOp (Co false) (AD 0) (mC JY)) BE) AJ))))) (Ar (mC .non)) A1)
  (AQ (sIf (GH (AR (mOp A3 (mOp AU (AD 0) (mC (.int 0))) (mC (.str "0")))) (AR (mOp Cj (AD 0) (mC (.str "0"))))) (Ar (mC .non)) A1)
  (Ar (AF Og (AC (AD 0) AJ)))))
noncomputable def FB(fh:List D->M D)(fo:List D->M D):Sl->M (Fl×Sl):=
  (AQ (As (AF Dq AJ) (AM 1))
  (AQ (Du (Vg (AC (AD 0) AJ)) (AM 2) (AQ (As (AF fh (AC (AD 2) AJ)) (AM 3))
  (AQ (sIf (AR (mOp (FL false) (AD 3) (mC .non))) (As (AF fo (AC (AD 2) (AC (AD 1) AJ))) (AM 3)) A1)
  (AQ (sIf (AR (mOp (FL false) (AD 3) (mC .non))) (Ar (mC .non)) A1)
  (Ag (BB FQ (AD 1) (AC (AD 3) AJ)))))))
  (Ar (mIf (AR (mOp A3 (AF Bq (AC (AD 1) AJ)) (mC (.int 1)))) (mOp AU (AD 1) (mC (.int 0))) (mC .non)))))
noncomputable def DB(fE:List D->M D):Sl->M (Fl×Sl):=
  (AQ (sIf (mOr (AR (mOp (Co false) (AD 0) (mC CL))) (AR (mOp A3 (AD 0) (mC (.str "not"))))) (Ar (mC .non)) A1)
  (AQ (sIf (AR (AF fE (AC (AD 0) AJ))) (Ar (AF BU (AC (mC (.str "var")) (AC (AD 0) AJ)))) A1)
  (Ar (mIf (GH (AR (mOp A3 (AF Bq (AC (AD 0) AJ)) (mC (.int 1)))) (AR (mOp (Co false) (AD 0) (mC JY)))) (AF BU (AC (mC (.str "num")) (AC (AF Og (AC (AD 0) AJ)) AJ))) (mC .non)))))
noncomputable def Gd  : Sl->M (Fl×Sl):=
  (AQ (sIf (GH (AR (mOp (Co false) (AD 0) (mC CL))) (AR (mOp U6 (AF Bq (AC (AD 1) AJ)) (mC (.int 2))))) (AQ (As (F2 Sc (AD 1)) (AM 2))
  (Ar (AF BU (AC (AD 0) (AC (AD 2) (AC (F2 Sc (AD 1)) AJ)))))) A1)
  (AQ (sIf (GH (AR (mOp A3 (AD 0) (mC (.str "not")))) (AR (mOp U6 (AF Bq (AC (AD 1) AJ)) (mC (.int 1))))) (Ar (AF BU (AC (AD 0) (AC (F2 Sc (AD 1)) AJ)))) A1)
  (Ar (mC .non))))
noncomputable def Gi(fO:List D->M D):Sl->M (Fl×Sl):=
  (AQ (sIf (AR (mOp (Co false) (mOp AU (AD 0) (mC (.int 0))) (AF BU (AC (mC (.str "num")) (AC (mC (.str "var")) AJ))))) (Ar (AF BE (AC (AF IR (AC (mOp AU (AD 0) (mC (.int 1))) AJ)) AJ))) A1)
  (AQ (As (AF BE (AC (mOp AU (AD 0) (mC (.int 0))) AJ)) (AM 1))
  (AQ (Du (Dw (Ie (AD 0) (CQ (mC (.int 1))) Bp)) (AM 2) (As (mOp BK (AD 1) (AF fO (AC (AD 2) AJ))) (AM 1)))
  (Ar (AD 1)))))
noncomputable def Jn(fO:List D->M D):Sl->M (Fl×Sl):=
  (AQ (sIf (mOr (AR (mOp A3 (mOp AU (AD 0) (mC (.int 0))) (mC (.str "put")))) (AR (mOp A3 (mOp AU (AD 0) (mC (.int 0))) (mC (.str "let"))))) (Ar (mOp BK (mOp BK (mOp BK (mOp BK (mOp AU (AD 0) (mC (.int 0))) (mC (.str " "))) (mOp AU (AD 0) (mC (.int 1)))) (mC (.str " "))) (Dy DY (mC (.str " ")) (AC (AF fO (AC (mOp AU (AD 0) (mC (.int 2))) AJ)) AJ)))) A1)
  (AQ (sIf (AR (mOp A3 (mOp AU (AD 0) (mC (.int 0))) (mC (.str "unless")))) (Ar (mOp BK (mOp BK (mOp BK (mC (.str "unless ")) (AF IR (AC (mOp AU (AD 0) (mC (.int 2))) AJ))) (mC (.str " "))) (Dy DY (mC (.str " ")) (AC (AF fO (AC (mOp AU (AD 0) (mC (.int 1))) AJ)) AJ)))) A1)
  (AQ (sIf (AR (mOp A3 (mOp AU (AD 0) (mC (.int 0))) (mC (.str "tell")))) (Ar (mOp BK (mC (.str "tell ")) (Dy DY (mC (.str " ")) (AC (AF fO (AC (mOp AU (AD 0) (mC (.int 1))) AJ)) AJ)))) A1)
  (AQ (sIf (AR (mOp A3 (mOp AU (AD 0) (mC (.int 0))) (mC (.str "jump")))) (Ar (mOp BK (mC (.str "jump ")) (AF IR (AC (mOp AU (AD 0) (mC (.int 1))) AJ)))) A1)
  (Ar (Dy DY (mC (.str " ")) (AC (AD 0) AJ)))))))
noncomputable def RL(fq:List D->M D):Sl->M (Fl×Sl):=
  (AQ (As (AF Dq (AC (mOp BK (mOp BK (mOp BK (mOp BK (mOp BK (mC (.str "makes ")) (mOp AU (AD 0) (mC (.int 0)))) (mC (.str " "))) (AF IR (AC (mOp AU (AD 0) (mC (.int 1))) AJ))) (mC (.str " "))) (AF IR (AC (mOp AU (AD 0) (mC (.int 2))) AJ))) AJ)) (AM 1))
  (AQ (Du (Dw (mOp AU (AD 0) (mC (.int 3)))) (DT [2,3,4,5,6]) (Ag (BB FQ (AD 1) (AC (Dy DY (mC (.str " ")) (AC (AF BE (AC (mC (.str "box")) (AC (AD 2) (AC (AD 3) (AC (AF IR (AC (AD 4) AJ)) (AC (AF IR (AC (AD 5) AJ)) (AC (AD 6) AJ))))))) AJ)) AJ))))
  (AQ (Du (Dw (mOp AU (AD 0) (mC (.int 4)))) (DT [2,7,8]) (AQ (Ag (BB FQ (AD 1) (AC (mOp BK (mOp BK (mOp BK (mC (.str "hand ")) (AD 2)) (mC (.str " "))) (AF IR (AC (AD 7) AJ))) AJ)))
  (As (mOp M8 (AD 1) (Bi 1 [] (Dw (AD 8)) (AM 0) Bu (AF fq (AC (AD 0) AJ)) BE)) (AM 1))))
  (Ar (Dy DY (mC (.str "\n")) (AC (AD 1) AJ))))))
noncomputable def EW(fN:List D->M D):Sl->M (Fl×Sl):=
  (AQ (sIf (AR (AF DC (AC (AD 0) (AC (mC (.ty "tuple")) AJ)))) (Ar (AF O7 (AC (Bi 1 [] (Dw (AD 0)) (AM 0) Bu (AF fN (AC (AD 0) AJ)) BE) AJ))) A1)
  (Ar (Dt (AF P5 (AC (AD 0) (AC (AF BU (AC (mC (.ty "str")) (AC (mC (.ty "int")) AJ))) AJ))) (MH (AF DC (AC (AD 0) (AC (mC (.ty "bool")) AJ)))))))
noncomputable def Yn(fw:List D->M D)(f8:List D->M D)(f6:List D->M D)(f7:List D->M D)(fH:List D->M D)(fM:List D->M D)(fN:List D->M D):Sl->M (Fl×Sl):=
  (AQ (As (mC .non) (AM 1))
  (AQ (Du (Dw (mOp BK (AF BE (AC (AF fw (AC (AD 0) (AC (mC (.int 0)) AJ))) AJ)) (Ie (AD 0) (CQ (mC (.int 1))) (CQ (mC (.int 2)))))) (AM 2) (AQ (As (AF f6 (AC (AF f8 (AC (AD 2) AJ)) AJ)) (AM 3))
  (AQ (As (AF f7 (AC (AD 3) AJ)) (AM 4))
  (AQ (Du (Ig (AC (mC (.int 2)) AJ)) (AM 5) (AQ (As (AF fH (AC (AD 3) AJ)) (AM 6))
  (AQ (sIf (mOr (Fa (AR (AF DC (AC (AD 6) (AC (mC (.ty "str")) AJ))))) (AR (mOp Cj (AD 6) (AD 4)))) (Ar (mC (.bl false))) A1)
  (AQ (As (AF fM (AC (AD 4) AJ)) (AM 7))
  (AQ (sIf (mOr (Fa (AR (AF DC (AC (AD 7) (AC (mC (.ty "tuple")) AJ))))) (mOr (AR (mOp Cj (AD 7) (AD 3))) (Fa (AR (AF fN (AC (AD 7) AJ)))))) (Ar (mC (.bl false))) A1)
  (sIf (GH (AR (mOp (FL true) (AD 1) (mC .non))) (mOr (AR (mOp Cj (AF fH (AC (mOp AU (AD 1) (mC (.int 0))) AJ)) (mOp AU (AD 1) (mC (.int 1))))) (AR (mOp Cj (AF fM (AC (mOp AU (AD 1) (mC (.int 1))) AJ)) (mOp AU (AD 1) (mC (.int 0))))))) (Ar (mC (.bl false))) A1))))))
  (As (AF BU (AC (AD 3) (AC (AD 4) AJ))) (AM 1))))))
  (AQ (As (AF BU (AC (mC (.str "safe")) (AC (mC (.int 2)) (AC (mC (.int 0)) (AC (AF BU AJ) (AC (AF BU (AC (AF BU (AC (mC (.str "a")) (AC (mC (.int 0)) (AC (AF BU AJ) AJ)))) (AC (AF BU (AC (mC (.str "b")) (AC (mC (.int 0)) (AC (AF BU AJ) AJ)))) AJ))) AJ)))))) (AM 8))
  (Ar (Dt (mOp A3 (AF fH (AC (AD 8) AJ)) (mC (.str "makes safe 2 0\nhand a 0\nhand b 0"))) (mOp A3 (AF fM (AC (AF fH (AC (AD 8) AJ)) AJ)) (AD 8)))))))
noncomputable def P9:List Str:=["made", "boxes", "hands", "programs"]
noncomputable def top(i:Nat):Stmt:=PySem.Challenge.pw_strongboxes_k05_makings_written.main.body.getD i (.Pass ⟨0,0,0,0⟩)
section
noncomputable abbrev Kh:Stmt:=top 9
theorem sc_is_whole:Ac ["thing", "least", "most"] ["thing", "least", "most"] (AN Kh):=⟨rfl,rfl,rfl,by decide +kernel,rfl,by decide +kernel,by decide +kernel⟩
noncomputable abbrev Lx:Stmt:=top 10
theorem sc_is_name:Ac ["thing"] ["thing"] (AN Lx):=⟨rfl,rfl,rfl,by decide +kernel,rfl,by decide +kernel,by decide +kernel⟩
noncomputable abbrev GD:Stmt:=top 11
theorem sc_is_expression:Ac ["thing", "deep", "word"] ["thing", "deep"] (AN GD):=⟨rfl,rfl,rfl,by decide +kernel,rfl,by decide +kernel,by decide +kernel⟩
noncomputable abbrev GQ:Stmt:=top 12
theorem sc_variables_in:Ac ["expression", "names", "part"] ["expression"] (AN GQ):=⟨rfl,rfl,rfl,by decide +kernel,rfl,by decide +kernel,by decide +kernel⟩
noncomputable abbrev GU:Stmt:=top 24
theorem sc_check_making:Ac ["making", "hand_names", "writers", "box", "number", "hand"] ["making"] (AN GU):=⟨rfl,rfl,rfl,by decide +kernel,rfl,by decide +kernel,by decide +kernel⟩
noncomputable abbrev Ug:Stmt:=top 25
theorem sc_need:Ac ["holds", "words"] ["holds", "words"] (AN Ug):=⟨rfl,rfl,rfl,by decide +kernel,rfl,by decide +kernel,by decide +kernel⟩
noncomputable abbrev Ki:Stmt:=top 26
theorem sc_is_tuple:Ac ["thing", "least", "most"] ["thing", "least", "most"] (AN Ki):=⟨rfl,rfl,rfl,by decide +kernel,rfl,by decide +kernel,by decide +kernel⟩
noncomputable abbrev GT:Stmt:=top 27
theorem sc_check_worths:Ac ["kind", "size", "begin"] ["kind", "size", "begin"] (AN GT):=⟨rfl,rfl,rfl,by decide +kernel,rfl,by decide +kernel,by decide +kernel⟩
noncomputable abbrev HL:Stmt:=top 28
theorem sc_check_boxes:Ac ["boxes", "box"] ["boxes"] (AN HL):=⟨rfl,rfl,rfl,by decide +kernel,rfl,by decide +kernel,by decide +kernel⟩
noncomputable abbrev HK:Stmt:=top 29
theorem sc_check_hands:Ac ["hands", "hand"] ["hands"] (AN HK):=⟨rfl,rfl,rfl,by decide +kernel,rfl,by decide +kernel,by decide +kernel⟩
noncomputable abbrev IV:Stmt:=top 30
theorem sc_are_unlike:Ac ["names"] ["names"] (AN IV):=⟨rfl,rfl,rfl,by decide +kernel,rfl,by decide +kernel,by decide +kernel⟩
noncomputable abbrev IT:Stmt:=top 31
theorem sc_check_rows:Ac ["hand", "is_writer", "writers", "row"] ["hand", "is_writer", "writers"] (AN IT):=⟨rfl,rfl,rfl,by decide +kernel,rfl,by decide +kernel,by decide +kernel⟩
noncomputable abbrev IU:Stmt:=top 32
theorem sc_check_form:Ac ["row", "length", "parts", "part", "thing"] ["row", "length"] (AN IU):=⟨rfl,rfl,rfl,by decide +kernel,rfl,by decide +kernel,by decide +kernel⟩
noncomputable abbrev Lw:Stmt:=top 33
theorem sc_is_part:Ac ["part", "thing", "length"] ["part", "thing", "length"] (AN Lw):=⟨rfl,rfl,rfl,by decide +kernel,rfl,by decide +kernel,by decide +kernel⟩
noncomputable abbrev GV:Stmt:=top 34
theorem sc_check_ending:Ac ["word", "is_writer"] ["word", "is_writer"] (AN GV):=⟨rfl,rfl,rfl,by decide +kernel,rfl,by decide +kernel,by decide +kernel⟩
noncomputable abbrev FA:Stmt:=top 35
theorem sc_check_variables:Ac ["row", "is_writer", "name"] ["row", "is_writer"] (AN FA):=⟨rfl,rfl,rfl,by decide +kernel,rfl,by decide +kernel,by decide +kernel⟩
noncomputable abbrev GP:Stmt:=top 36
theorem sc_variables_of:Ac ["row", "names", "part", "thing"] ["row"] (AN GP):=⟨rfl,rfl,rfl,by decide +kernel,rfl,by decide +kernel,by decide +kernel⟩
noncomputable abbrev Ej:Stmt:=Ri (top 41) 0
theorem sc_Reading___init__:Ac ["self"] ["self"] (AN Ej):=⟨rfl,rfl,rfl,by decide +kernel,rfl,by decide +kernel,by decide +kernel⟩
noncomputable abbrev EI:Stmt:=Ri (top 41) 1
theorem sc_Reading_lets_stand:Ac ["self", "word"] ["self", "word"] (AN EI):=⟨rfl,rfl,rfl,by decide +kernel,rfl,by decide +kernel,by decide +kernel⟩
noncomputable abbrev GW:Stmt:=Ri (top 41) 2
theorem sc_Reading_take:Ac ["self", "row"] ["self", "row"] (AN GW):=⟨rfl,rfl,rfl,by decide +kernel,rfl,by decide +kernel,by decide +kernel⟩
noncomputable abbrev Dr:Stmt:=Ri (top 41) 3
theorem sc_Reading_told_making:Ac ["self", "hands"] ["self"] (AN Dr):=⟨rfl,rfl,rfl,by decide +kernel,rfl,by decide +kernel,by decide +kernel⟩
noncomputable abbrev GS:Stmt:=top 42
theorem sc_shown_making:Ac ["making", "rows", "box", "hand"] ["making"] (AN GS):=⟨rfl,rfl,rfl,by decide +kernel,rfl,by decide +kernel,by decide +kernel⟩
noncomputable abbrev Jf:Stmt:=top 43
theorem sc_shown_row:Ac ["row", "words", "thing"] ["row"] (AN Jf):=⟨rfl,rfl,rfl,by decide +kernel,rfl,by decide +kernel,by decide +kernel⟩
noncomputable abbrev GR:Stmt:=top 44
theorem sc_turned_round:Ac ["word", "parts"] ["word", "parts"] (AN GR):=⟨rfl,rfl,rfl,by decide +kernel,rfl,by decide +kernel,by decide +kernel⟩
noncomputable abbrev Kf:Stmt:=top 45
theorem sc_words_of:Ac ["thing", "words", "part"] ["thing"] (AN Kf):=⟨rfl,rfl,rfl,by decide +kernel,rfl,by decide +kernel,by decide +kernel⟩
noncomputable abbrev HI:Stmt:=top 46
theorem sc_read_making:Ac ["text", "lines", "reading", "number", "line", "row", "making"] ["text"] (AN HI):=⟨rfl,rfl,rfl,by decide +kernel,rfl,by decide +kernel,by decide +kernel⟩
noncomputable abbrev Kg:Stmt:=top 47
theorem sc_read_row:Ac ["line", "words", "parts", "things"] ["line"] (AN Kg):=⟨rfl,rfl,rfl,by decide +kernel,rfl,by decide +kernel,by decide +kernel⟩
noncomputable abbrev IS:Stmt:=top 48
theorem sc_read_parts:Ac ["parts", "words", "ahead", "things"] ["parts", "words"] (AN IS):=⟨rfl,rfl,rfl,by decide +kernel,rfl,by decide +kernel,by decide +kernel⟩
noncomputable abbrev Jg:Stmt:=top 49
theorem sc_read_part:Ac ["part", "word"] ["part", "word"] (AN Jg):=⟨rfl,rfl,rfl,by decide +kernel,rfl,by decide +kernel,by decide +kernel⟩
noncomputable abbrev HH:Stmt:=top 50
theorem sc_read_number:Ac ["word", "most_figures"] ["word", "most_figures"] (AN HH):=⟨rfl,rfl,rfl,by decide +kernel,rfl,by decide +kernel,by decide +kernel⟩
noncomputable abbrev E9:Stmt:=top 51
theorem sc_read_expression:Ac ["words", "ready", "word", "expression"] ["words"] (AN E9):=⟨rfl,rfl,rfl,by decide +kernel,rfl,by decide +kernel,by decide +kernel⟩
noncomputable abbrev HJ:Stmt:=top 52
theorem sc_read_ground:Ac ["word"] ["word"] (AN HJ):=⟨rfl,rfl,rfl,by decide +kernel,rfl,by decide +kernel,by decide +kernel⟩
noncomputable abbrev Jh:Stmt:=top 53
theorem sc_read_nest:Ac ["word", "ready", "first"] ["word", "ready"] (AN Jh):=⟨rfl,rfl,rfl,by decide +kernel,rfl,by decide +kernel,by decide +kernel⟩
noncomputable abbrev Kj:Stmt:=top 55
theorem sc_Lcell_at:Ac ["_law_script", "_law_k"] ["_law_script", "_law_k"] (AN Kj):=⟨rfl,rfl,rfl,by decide +kernel,rfl,by decide +kernel,by decide +kernel⟩
noncomputable abbrev Qn:Stmt:=top 56
theorem sc_Lwell:Ac ["_law_cell"] ["_law_cell"] (AN Qn):=⟨rfl,rfl,rfl,by decide +kernel,rfl,by decide +kernel,by decide +kernel⟩
noncomputable abbrev Qq:Stmt:=top 57
theorem sc_Ldraw:Ac ["_law_well_here", "_law_base", "_law_found", "_law_number"] ["_law_well_here", "_law_base"] (AN Qq):=⟨rfl,rfl,rfl,by decide +kernel,rfl,by decide +kernel,by decide +kernel⟩
noncomputable abbrev Qp:Stmt:=top 58
theorem sc_Lexpr:Ac ["_law_well_here", "_law_names", "_law_deep", "_law_way", "_law_word", "_law_one", "_law_other"] ["_law_well_here", "_law_names", "_law_deep"] (AN Qp):=⟨rfl,rfl,rfl,by decide +kernel,rfl,by decide +kernel,by decide +kernel⟩
noncomputable abbrev Uh:Stmt:=top 59
theorem sc_Lrow:Ac ["_law_well_here", "_law_own", "_law_boxes", "_law_names", "_law_many", "_law_is_writer", "_law_way", "_law_deep", "_law_seen"] ["_law_well_here", "_law_own", "_law_boxes", "_law_names", "_law_many", "_law_is_writer"] (AN Uh):=⟨rfl,rfl,rfl,by decide +kernel,rfl,by decide +kernel,by decide +kernel⟩
noncomputable abbrev Jj:Stmt:=top 60
theorem sc_Lany_name:Ac ["_law_well_here", "_law_others", "_law_found", "_law_k"] ["_law_well_here", "_law_others"] (AN Jj):=⟨rfl,rfl,rfl,by decide +kernel,rfl,by decide +kernel,by decide +kernel⟩
noncomputable abbrev Ly:Stmt:=top 61
theorem sc_Lmaking:Ac ["_law_well_here", "_law_some", "_law_turn", "_law_names", "_law_boxes", "_law_k", "_law_size", "_law_kind", "_law_hands", "_law_longest", "_law_name", "_law_many", "_law_own", "_law_row_names", "_law_rows"] ["_law_well_here"] (AN Ly):=⟨rfl,rfl,rfl,by decide +kernel,rfl,by decide +kernel,by decide +kernel⟩
noncomputable abbrev OG:Stmt:=top 62
theorem sc_Lwords:Ac ["_law_expr_here", "_law_found", "_law_one"] ["_law_expr_here"] (AN OG):=⟨rfl,rfl,rfl,by decide +kernel,rfl,by decide +kernel,by decide +kernel⟩
noncomputable abbrev Ji:Stmt:=top 63
theorem sc_Lrow_text:Ac ["_law_row_here"] ["_law_row_here"] (AN Ji):=⟨rfl,rfl,rfl,by decide +kernel,rfl,by decide +kernel,by decide +kernel⟩
noncomputable abbrev Qo:Stmt:=top 64
theorem sc_Ltext:Ac ["_law_making_here", "_law_rows", "_law_name", "_law_kind", "_law_size", "_law_begin", "_law_hand", "_law_within", "_law_program"] ["_law_making_here"] (AN Qo):=⟨rfl,rfl,rfl,by decide +kernel,rfl,by decide +kernel,by decide +kernel⟩
noncomputable abbrev IW:Stmt:=top 65
theorem sc_Lall_plain:Ac ["_law_thing"] ["_law_thing"] (AN IW):=⟨rfl,rfl,rfl,by decide +kernel,rfl,by decide +kernel,by decide +kernel⟩
noncomputable abbrev Yf:Stmt:=top 66
theorem sc_law:Ac ["_law_script", "_law_ahead", "_law_cell", "_law_making_here", "_law_due", "_law_turn", "_law_found", "_law_again", "_law_bare"] ["_law_script"] (AN Yf):=⟨rfl,rfl,rfl,by decide +kernel,rfl,by decide +kernel,by decide +kernel⟩
end
noncomputable def Dg:Nat->List D->M D
 |0=>λ_=>BO
 |n+1=>Cw .all 3 1 (Gi (Dg n))
noncomputable def FF:List D->M D:=Cw .all 1 1 (Jn (Dg 6))
noncomputable def J9:List D->M D:=BF .drop 9 1 (RL FF)
noncomputable def B3:List D->M D:=Cw .all 2 2 (En)
noncomputable def B2:Nat->List D->M D
 |0=>λ_=>BO
 |n+1=>BF .frz 3 1 (DN (B2 n))
noncomputable def Bk:List D->M D:=BF .drop 3 1 (Gb B3 (B2 6))
noncomputable def CW:List D->M D:=BF .drop 4 1 (Gc Bk)
noncomputable def Ci:List D->M D:=Cw .all 1 1 (Ep)
noncomputable def BP:List D->M D:=Cw .all 1 1 (DB CY)
noncomputable def C4:List D->M D:=Cw .all 3 2 (Gd)
noncomputable def Ct:List D->M D:=BF .drop 4 1 (FB BP C4)
noncomputable def EC:List D->M D:=Cw .all 2 2 (HN)
noncomputable def Cc:List D->M D:=Cw .all 2 2 (EJ Ct EC CY)
noncomputable def Ch:List D->M D:=Cw .all 4 2 (F1 Cc)
noncomputable def BZ:List D->M D:=Cw .all 4 1 (Hn B3 Ch)
noncomputable def Aj:List D->M D:=Cw .all 2 2 (Bh)
noncomputable def A2:List D->M D:=Cw .all 2 2 (C3)
noncomputable def B8:List D->M D:=Cw .all 2 1 (Ds)
noncomputable def Cn:List D->M D:=BF .drop 7 1 (HP Ci BZ Aj A2 B8 Eu)
noncomputable def CJ:Nat->List D->M D
 |0=>λ_=>BO
 |n+1=>Cw .all 1 1 (EW (CJ n))
noncomputable def On:List D->M D:=BF .drop 9 1 (Yn Hu NY JW J9 CW Cn (CJ 12))
end K5
namespace Mi
open PySem L2
section
variable{ι2 ι':Nat->Addr}{k k2 k':Nat}
variable(ag:∀n,n<k->ι' n=ι2 n)(am:∀m,m<k'->∃n,n<k2/\ι' m=ι2 n)(hk:k<=k')
include ag am hk
end
end Mi
local macro_rules | `(tactic| wtm_at "w")=>`(tactic| simp only[Mi.mSlotR_eq,Mi.mOpR_eq,Mi.mDispR_eq,Mi.aConsR_eq,Mi.sSeqR_eq,Mi.sSetR_eq,Mi.sIfR_eq,Mi.mAndR_eq,Mi.mOrR_eq,Mi.mTestR_eq,Mi.sRetR_eq])
namespace Mi
section
variable{α:Type}{P:List α->Prop}
theorem lq1(h:∀a,P [a]):∀us:List α,us.length=1->P us:=λus e=>by
 rcases us with _|⟨a,us⟩
 ·cases e
 ·cases List.eq_nil_of_length_eq_zero (Nat.succ.inj e);exact h a
theorem lqs{n:Nat}{P:List α->Prop}(h:∀a,∀us:List α,us.length=n->P (a::us)):∀us:List α,us.length=n+1->P us:=λus e=>by
 rcases us with _|⟨a,us⟩
 ·cases e
 ·exact h a us (Nat.succ.inj e)
theorem lq2(h:∀a b,P [a,b]):∀us:List α,us.length=2->P us:=lqs λa=>lq1 (P:=λl=>P (a::l)) (h a)
theorem lq3(h:∀a b c,P [a,b,c]):∀us:List α,us.length=3->P us:=lqs λa=>lq2 (P:=λl=>P (a::l)) (h a)
theorem lq4(h:∀a b c d,P [a,b,c,d]):∀us:List α,us.length=4->P us:=lqs λa=>lq3 (P:=λl=>P (a::l)) (h a)
theorem lq5(h:∀a b c d e,P [a,b,c,d,e]):∀us:List α,us.length=5->P us:=lqs λa=>lq4 (P:=λl=>P (a::l)) (h a)
theorem lq6(h:∀a b c d e f,P [a,b,c,d,e,f]):∀us:List α,us.length=6->P us:=lqs λa=>lq5 (P:=λl=>P (a::l)) (h a)
end
end Mi
namespace K5
open PySem L2 Mi K1
structure Al(w:World)(K:PySem.W.Frag)(mg:Str->Option Value)(h:Heap):Prop where
 X:K.In h
 G:h.Ns mainGlobals mg
 e0:∃f fd,Df K "_law_cell_at" Kj f fd
 e1:∃f fd,Df K "_law_well" Qn f fd
 e2:∃f fd,Df K "_law_draw" Qq f fd
 e3:∃f fd,Df K "_law_any_name" Jj f fd
 e4:∃f fd,Df K "_law_expr" Qp f fd
 e5:∃f fd,Df K "_law_row" Uh f fd
 e6:∃f fd,Df K "_law_making" Ly f fd
 e7:∃f fd,Df K "_law_words" OG f fd
 e8:∃f fd,Df K "_law_row_text" Ji f fd
 e9:∃f fd,Df K "_law_text" Qo f fd
 e10:∃f fd,Df K "turned_round" GR f fd
 e11:∃f fd,Df K "words_of" Kf f fd
 e12:∃f fd,Df K "shown_row" Jf f fd
 e13:∃f fd,Df K "shown_making" GS f fd
 e14:∃C f fd,Di K "Reading" "Reading.__init__" Ej C f fd
 e15:∃f fd,Df K "is_name" Lx f fd
 e16:∃f fd,Df K "read_ground" HJ f fd
 e17:∃f fd,Df K "read_nest" Jh f fd
 e18:∃f fd,Df K "read_expression" E9 f fd
 e19:∃f fd,Df K "read_number" HH f fd
 e20:∃f fd,Df K "read_part" Jg f fd
 e21:∃f fd,Df K "read_parts" IS f fd
 e22:∃f fd,Df K "read_row" Kg f fd
 e23:∃C f fd,Dm K "Reading" "lets_stand" "Reading.lets_stand" EI C f fd
 e24:∃C f fd,Dm K "Reading" "take" "Reading.take" GW C f fd
 e25:∃C f fd,Dm K "Reading" "told_making" "Reading.told_making" Dr C f fd
 e26:∃f fd,Df K "is_tuple" Ki f fd
 e27:∃f fd,Df K "need" Ug f fd
 e28:∃f fd,Df K "is_whole" Kh f fd
 e29:∃f fd,Df K "check_worths" GT f fd
 e30:∃f fd,Df K "are_unlike" IV f fd
 e31:∃f fd,Df K "check_boxes" HL f fd
 e32:∃f fd,Df K "check_hands" HK f fd
 e33:∃f fd,Df K "is_expression" GD f fd
 e34:∃f fd,Df K "is_part" Lw f fd
 e35:∃f fd,Df K "check_form" IU f fd
 e36:∃f fd,Df K "check_ending" GV f fd
 e37:∃f fd,Df K "variables_in" GQ f fd
 e38:∃f fd,Df K "variables_of" GP f fd
 e39:∃f fd,Df K "check_variables" FA f fd
 e40:∃f fd,Df K "check_rows" IT f fd
 e41:∃f fd,Df K "check_making" GU f fd
 e42:∃f fd,Df K "read_making" HI f fd
 e43:∃f fd,Df K "_law_all_plain" IW f fd
 e44:∃f fd,Df K "law" Yf f fd
 e45:∃C,Dc K "Reading" P9 C
 y0:mg "all" = none
 y1:mg "any" = none
 y2:mg "bool" = none
 y3:mg "enumerate" = none
 y4:mg "int" = none
 y5:mg "isinstance" = none
 y6:mg "len" = none
 y7:mg "max" = none
 y8:mg "min" = none
 y9:mg "range" = none
 y10:mg "reversed" = none
 y11:mg "set" = none
 y12:mg "str" = none
 y13:mg "tuple" = none
 y14:mg "zip" = none
 g0:Glo K mg "DEEPEST" Ef
 g1:Glo K mg "FIGURES" JY
 g2:Glo K mg "GREATEST" D3
 g3:Glo K mg "KINDS" KB
 g4:Glo K mg "LEAST_HANDS" EG
 g5:Glo K mg "LEAST_SIZE" F7
 g6:Glo K mg "LETTERS" G8
 g7:Glo K mg "MOST_BOXES" Eb
 g8:Glo K mg "MOST_FIGURES" Gp
 g9:Glo K mg "MOST_HANDS" Ea
 g10:Glo K mg "MOST_ROWS" EK
 g11:Glo K mg "MOST_SIZE" Go
 g12:Glo K mg "MOST_WITHIN" EF
 g13:Glo K mg "NO_VARIABLES" Dl
 g14:Glo K mg "PAIR_WORDS" CL
 g15:Tf w K mg "HEAD_PARTS" EU
 g16:Tf w K mg "PARTS" Bc
section
variable{P:Program}{w:World}{K:PySem.W.Frag}{mg:Str->Option Value}{base h:Heap}(a:Al w K mg h)
include a
theorem QQ:Fn P w K mg base "_law_cell_at" ["_law_script", "_law_k"] 1 (Hu):=by
 obtain⟨f,fd,d⟩:=a.e0;exact A7 (k:=0) .drop d.F sc_Lcell_at (PySem.W.mg_of a.X a.G d.a) (d.F.binds λ_ _ _ _ _ _=>lq2 λ_ _=>rfl) (λ_ _ _ _ _ _ hr=>have nd:=sc_Lcell_at.nd;(AG (At (AZ Le (AB 1) (AX B5 a.y6 Mi.Au (AA (AB 0) AE))) (AK (AW (AV An (AB 0) (AB 1)))) AY) (AK (AW AH))))
theorem YW:Fn P w K mg base "_law_well" ["_law_cell"] 1 (NY):=by
 obtain⟨f,fd,d⟩:=a.e1;exact A7 (k:=0) .all d.F sc_Lwell (PySem.W.mg_of a.X a.G d.a) (d.F.binds λ_ _ _ _ _ _=>lq1 λ_=>rfl) (λ_ _ _ _ _ _ hr=>have nd:=sc_Lwell.nd;(AK (AW (CT (AA (AX (de rfl) a.y7 Mi.WS (AA AH (AA (Ao GY (AB 0) (Ao ci AH AH)) AE))) (AA (Ao MB (AB 0) AH) (AA AH AE)))))))
theorem BC:Fn P w K mg base "_law_draw" ["_law_well_here", "_law_base"] 1 (BM):=by
 obtain⟨f,fd,d⟩:=a.e2;exact A7 (k:=0) .drop d.F sc_Ldraw (PySem.W.mg_of a.X a.G d.a) (d.F.binds λ_ _ _ _ _ _=>lq2 λ_ _=>rfl) (λ_ _ _ _ _ _ hr=>have nd:=sc_Ldraw.nd;(AG (At (AZ aF (AV An (AB 0) AH) AH) (AG (Ai 2 nd (Ao MB (AV An (AB 0) AH) (AB 1))) (AG (Uk (Ao NG (AV An (AB 0) AH) (AB 1)) (Uv (AB 0) AH)) (AK (AW (AB 2))))) AY) (AG (Uk (Ao DX (AV An (AB 0) AH) AH) (Uv (AB 0) AH)) (AG (Ai 3 nd (Ao MB (Ao K0 (Ao DX (Ao DX (AV An (AB 0) AH) (Ao K0 AH (AV An (AB 0) AH))) AH) AH) AH)) (AG (Ai 3 nd (Ao MB (Ao K0 (AB 3) (Ao DX (Ao NG (AB 3) AH) AH)) AH)) (AG (Ai 3 nd (Ao MB (Ao K0 (AB 3) (Ao DX (Ao NG (AB 3) AH) AH)) AH)) (AK (AW (Ao MB (Ao DX (Ao K0 (AB 3) AH) (Ao NG (AB 3) AH)) (AB 1))))))))))
theorem Ju:Fn P w K mg base "_law_any_name" ["_law_well_here", "_law_others"] 2 (DR):=by
 obtain⟨f,fd,d⟩:=a.e3;exact A7 (k:=1) .drop d.F sc_Lany_name (PySem.W.mg_of a.X a.G d.a) (d.F.binds λ_ _ _ _ _ _=>lq2 λ_ _=>rfl) (λ_ _ _ _ _ _ hr=>have nd:=sc_Lany_name.nd;(AG (Ai 2 nd AL) (AG (Bz PassesOwn.never rfl (G4 a.y9 (AA (Ao DX AH (AS (BC a) hr (AA (AB 0) (AA AH AE)))) AE)) (CS 3 nd) (AK (Ai 2 nd (Ao DX (AB 2) (AV An AL (AS (BC a) hr (AA (AB 0) (AA AH AE)))))))) (AG (At (AZ Hk (AB 2) (AB 1)) (AK (Ai 2 nd AL)) AY) (AK (AW (AB 2)))))))
theorem KD(n:Nat):Fn P w K mg base "_law_expr" ["_law_well_here", "_law_names", "_law_deep"] (n+2) (Dh n):=by
 obtain⟨f,fd,d⟩:=a.e4
 induction n with
 |zero=>exact Fc d.F (PySem.W.mg_of a.X a.G d.a) (d.F.binds λ_ _ _ _ _ _=>lq3 λ_ _ _=>rfl)
 |succ n ih=>exact(A7 (k:=n+2) .drop d.F sc_Lexpr (PySem.W.mg_of a.X a.G d.a) (d.F.binds λ_ _ _ _ _ _=>lq3 λ_ _ _=>rfl) (λ_ _ _ _ _ _ hr=>have nd:=sc_Lexpr.nd;(AG (Ai 3 nd (AS (hkj:=by omega) (BC a) hr (AA (AB 0) (AA AH AE)))) (AG (At (RW.rt (GE (AZ (Bw hr) (AB 2) AH) (FJ (AZ Le (AB 3) AH)))) (AG (At (RW.rt (GE (AZ (Bw hr) (AB 1) (CB AE)) (FJ (AZ (Bw hr) (AS (hkj:=by omega) (BC a) hr (AA (AB 0) (AA AH AE))) AH)))) (AK (AW (A4 (AA AL (AA (AS (hkj:=by omega) (BC a) hr (AA (AB 0) (AA AH AE))) AE))))) AY) (AK (AW (A4 (AA AL (AA (AV An (AB 1) (AS (hkj:=by omega) (BC a) hr (AA (AB 0) (AA (AX B5 a.y6 Mi.Au (AA (AB 1) AE)) AE)))) AE)))))) AY) (AG (At (AZ (Bw hr) (AB 3) AH) (AK (AW (A4 (AA AL (AA (AS (hkj:=AAE _) ih hr (AA (AB 0) (AA (AB 1) (AA (Ao GY (AB 2) AH) AE)))) AE))))) AY) (AG (Ai 4 nd (AV An (CB (AA AL (AA AL (AA AL (AA AL (AA AL (AA AL AE))))))) (Ao GY (AB 3) AH))) (AG (Ai 5 nd (AS (hkj:=AAE _) ih hr (AA (AB 0) (AA (AB 1) (AA (Ao GY (AB 2) AH) AE))))) (AG (Ai 6 nd (AS (hkj:=AAE _) ih hr (AA (AB 0) (AA (AB 1) (AA (AX (Yy rfl) a.y8 Mi.O0 (AA (Ao GY (AB 2) AH) (AA AH AE))) AE))))) (AK (AW (AV An (CB (AA (A4 (AA (AB 4) (AA (AB 5) (AA (AB 6) AE)))) (AA (A4 (AA (AB 4) (AA (AB 6) (AA (AB 5) AE)))) AE))) (AS (hkj:=by omega) (BC a) hr (AA (AB 0) (AA AH AE)))))))))))))).mono (by omega)
theorem bN:Fn P w K mg base "_law_row" ["_law_well_here", "_law_own", "_law_boxes", "_law_names", "_law_many", "_law_is_writer"] 9 (LI):=by
 obtain⟨f,fd,d⟩:=a.e5;exact A7 (k:=8) .drop d.F sc_Lrow (PySem.W.mg_of a.X a.G d.a) (d.F.binds λ_ _ _ _ _ _=>lq6 λ_ _ _ _ _ _=>rfl) (λ_ _ _ _ _ _ hr=>have nd:=sc_Lrow.nd;(AG (Ai 6 nd (AS (BC a) hr (AA (AB 0) (AA AH AE)))) (AG (Ai 7 nd (AV An (CB (AA AH (AA AH (AA AH (AA AH AE))))) (AS (BC a) hr (AA (AB 0) (AA AH AE))))) (AG (At (AZ aF (AB 4) AH) (AK (Ai 7 nd (AX (Yy rfl) a.y8 Mi.O0 (AA (AB 7) (AA AH AE))))) AY) (AG (Ai 8 nd (Ao DX (AB 3) (Ao K0 (CB (AA AL AE)) (A8 WO a.y4 Mi.Fg (AA (AB 5) AE))))) (AG (At (RW.rt (He (AZ Le (AB 6) AH) (Fx (AZ (JM hr) (AB 1) (CB AE))))) (AK (AW (A4 (AA AL (AA (AV An (AB 1) (AS (BC a) hr (AA (AB 0) (AA (AX B5 a.y6 Mi.Au (AA (AB 1) AE)) AE)))) (AA (AS (KD a 6) hr (AA (AB 0) (AA (AB 8) (AA (AB 7) AE)))) AE)))))) AY) (AG (At (RW.rt (He (AZ Le (AB 6) AH) (Fx (AZ (JM hr) (AB 2) (CB AE))))) (AK (AW (A4 (AA AL (AA (AV An (AB 3) (AS (BC a) hr (AA (AB 0) (AA (AX B5 a.y6 Mi.Au (AA (AB 3) AE)) AE)))) (AA (AV An (AB 2) (AS (BC a) hr (AA (AB 0) (AA (AX B5 a.y6 Mi.Au (AA (AB 2) AE)) AE)))) AE)))))) AY) (AG (At (AZ Le (AB 6) AH) (AK (AW (A4 (AA AL (AA (AV An (AB 3) (AS (BC a) hr (AA (AB 0) (AA (AX B5 a.y6 Mi.Au (AA (AB 3) AE)) AE)))) (AA (AS (KD a 6) hr (AA (AB 0) (AA (AB 8) (AA (AB 7) AE)))) AE)))))) AY) (AG (At (AZ (Bw hr) (AB 6) AH) (AK (AW (A4 (AA AL (AA (AS (KD a 6) hr (AA (AB 0) (AA (AB 8) (AA (AB 7) AE)))) (AA (AS (BC a) hr (AA (AB 0) (AA (Ao DX (AB 4) AH) AE))) AE)))))) AY) (AG (At (AZ (Bw hr) (AB 6) AH) (AK (AW (A4 (AA AL (AA (AS (BC a) hr (AA (AB 0) (AA (Ao DX (AB 4) AH) AE))) AE))))) AY) (AK (AW (AV An (CB (AA (A4 (AA AL (AA (AS (KD a 6) hr (AA (AB 0) (AA (AB 8) (AA (AB 7) AE)))) AE))) (AA (A4 (AA AL AE)) AE))) (A8 WO a.y4 Mi.Fg (AA (AB 5) AE)))))))))))))))
theorem Th:Fn P w K mg base "_law_making" ["_law_well_here"] 10 (JW):=by
 obtain⟨f,fd,d⟩:=a.e6;exact A7 (k:=9) .drop d.F sc_Lmaking (PySem.W.mg_of a.X a.G d.a) (d.F.binds λ_ _ _ _ _ _=>lq1 λ_=>rfl) (λ_ _ _ _ _ _ hr=>have nd:=sc_Lmaking.nd;(AG (Ai 1 nd (CT (AA AL (AA AL (AA AL (AA AL (AA AL (AA AL (AA AL (AA AL (AA AL (AA AL (AA AL AE))))))))))))) (AG (Ae (BS PySem.F.slot_list_insert PySem.F.type_list_insert OU (AB 1) (AA AH (AA (AS (Ju a) hr (AA (AB 0) (AA (AB 1) AE))) AE)))) (AG (Ai 2 nd (AS (BC a) hr (AA (AB 0) (AA AH AE)))) (AG (Ai 1 nd (Ao DX (Ko (AB 1) (Bn (AB 2)) B7) (Ko (AB 1) B7 (Bn (AB 2))))) (AG (Ai 3 nd (Ko (AB 1) B7 (Bn (Ao DX AH (AS (BC a) hr (AA (AB 0) (AA AH AE))))))) (AG (Ai 4 nd (CT AE)) (AG (Bz PassesOwn.never rfl (G4 a.y9 (AA (AS (BC a) hr (AA (AB 0) (AA AH AE))) AE)) (CS 5 nd) (AG (Ai 6 nd (Ao DX AH (AS (BC a) hr (AA (AB 0) (AA AH AE))))) (AG (Ai 7 nd (AV An (CB (AA AL (AA AL (AA AL AE)))) (AS (BC a) hr (AA (AB 0) (AA AH AE))))) (AK (Ae (BS PySem.F.slot_list_append PySem.F.type_list_append Cm (AB 4) (AA (A4 (AA (AV An (AB 1) (Ao GY AH (AB 5))) (AA (AB 7) (AA (AB 6) (AA (AS (BC a) hr (AA (AB 0) (AA (AB 6) AE))) (AA (AV An (AB 3) (AS (BC a) hr (AA (AB 0) (AA (AX B5 a.y6 Mi.Au (AA (AB 3) AE)) AE)))) AE)))))) AE))))))) (AG (Ai 8 nd (CT AE)) (AG (Ai 9 nd (AS (BC a) hr (AA (AB 0) (AA (Ao K0 AH (AX B5 a.y6 Mi.Au (AA (AB 3) AE))) AE)))) (AG (Bz PassesOwn.never rfl (OM a.y3 (AA (AB 3) AE)) (Hh (is:=[5,10]) rfl (BJ (Az (i:=5) nd rfl (by first|exact Or.inl rfl|exact Or.inr rfl)) (BJ (Az (i:=10) nd rfl (by first|exact Or.inl rfl|exact Or.inr rfl)) EV))) (AG (Ai 11 nd (AV An (CB (AA AH (AA AH (AA AH (AA AH (AA AH AE)))))) (AS (BC a) hr (AA (AB 0) (AA AH AE))))) (AG (At (AZ (Bw hr) (AB 5) (AB 9)) (AK (Ai 11 nd AH)) AY) (AG (Ai 12 nd (Kp (by wtm_at "j") (by wtm_at "j") (tgs:=["_law_box"]) (ix:=[10]) (i:=0) (n:=1) ⟨rfl,by decide +kernel,by decide +kernel,⟨Or.inl rfl,trivial⟩,rfl,by decide +kernel⟩ rfl (Pf (AB 4)) (λ_ _ _ _=>Az (i:=0) (show List.Nodup (["_law_box", "_law_name"]:List Str) from by decide +kernel) rfl (Or.inl rfl)) (λ_ _ _ _=>Uq (AZ (Bw hr) (AV An (AB 0) AH) (AB 1))) (λ_ _ _ _=>(AV An (AB 0) AH)))) (AG (Ai 13 nd (CT (AA AL (AA AL (AA AL (AA AL AE)))))) (AG (Ae (BS PySem.F.slot_list_insert PySem.F.type_list_insert OU (AB 13) (AA AH (AA (AS (Ju a) hr (AA (AB 0) (AA (Ao aH (AB 13) (CB (AA AL (AA AL (AA AL (AA AL AE)))))) AE))) AE)))) (AG (Ai 13 nd (Ko (AB 13) B7 (Bn (Ao DX AH (AS (BC a) hr (AA (AB 0) (AA AH AE))))))) (AG (Kk 14 (tgs:=["_law_j"]) (ix:=[4,5,11,12,13,0]) (i:=0) (n:=1) nd ⟨rfl,by decide +kernel,by decide +kernel,⟨Or.inl rfl,Or.inl rfl,Or.inl rfl,Or.inl rfl,Or.inl rfl,Or.inl rfl,trivial⟩,rfl,by decide +kernel⟩ rfl (G4 a.y9 (AA (AB 11) AE)) (λ_ _ _ _=>Az (i:=0) (show List.Nodup (["_law_j", "_law_boxes", "_law_k", "_law_many", "_law_own", "_law_row_names", "_law_well_here"]:List Str) from by decide +kernel) rfl (Or.inl rfl)) (λ_ _ _ _=>C0) (λ_ _ _ _=>(AS (bN a) hr (AA (AB 6) (AA (AB 4) (AA (Kp (by wtm_at "j") (by wtm_at "j") (tgs:=["_law_box"]) (ix:=[]) (i:=0) (n:=1) ⟨rfl,by decide +kernel,by decide +kernel,trivial,rfl,by decide +kernel⟩ rfl (Pf (AB 1)) (λ_ _ _ _=>Az (i:=0) (show List.Nodup (["_law_box"]:List Str) from by decide +kernel) rfl (Or.inl rfl)) (λ_ _ _ _=>C0) (λ_ _ _ _=>(AV An (AB 0) AH))) (AA (AB 5) (AA (AB 3) (AA (Bo (Bw hr) (AB 2) AH) AE)))))))) (λ_ _ _ _ _ _ _ _ R i e q=>EA R i e q)) (AK (Ae (BS PySem.F.slot_list_append PySem.F.type_list_append Cm (AB 8) (AA (A4 (AA (AB 10) (AA (AV An (CB (AA AH (AA AH (AA AH (AA AH (AA AH AE)))))) (AS (BC a) hr (AA (AB 0) (AA AH AE)))) (AA (A8 F9 a.y13 Mi.Br (AA (AB 14) AE)) AE)))) AE)))))))))))) (AG (Ai 6 nd (Ao DX AH (AS (BC a) hr (AA (AB 0) (AA AH AE))))) (AG (Ai 7 nd (AV An (CB (AA AL (AA AL (AA AL AE)))) (AS (BC a) hr (AA (AB 0) (AA AH AE))))) (AK (AW (A4 (AA (AB 7) (AA (AB 6) (AA (AS (BC a) hr (AA (AB 0) (AA (AB 6) AE))) (AA (A8 F9 a.y13 Mi.Br (AA (AB 4) AE)) (AA (A8 F9 a.y13 Mi.Br (AA (AB 8) AE)) AE)))))))))))))))))))))
theorem La(n:Nat):Fn P w K mg base "_law_words" ["_law_expr_here"] (n+1) (Dg n):=by
 obtain⟨f,fd,d⟩:=a.e7
 induction n with
 |zero=>exact Fc d.F (PySem.W.mg_of a.X a.G d.a) (d.F.binds λ_ _ _ _ _ _=>lq1 λ_=>rfl)
 |succ n ih=>exact(DF (k:=n+1) .all d.F sc_Lwords (PySem.W.mg_of a.X a.G d.a) (d.F.binds λ_ _ _ _ _ _=>lq1 λ_=>rfl) (λ_ _ _ _ _ _ hr=>have nd:=sc_Lwords.nd;(AG (At (AZ Hk (AV An (AB 0) AH) (A4 (AA AL (AA AL AE)))) (AK (AW (CB (AA (A8 HV a.y12 Mi.B6 (AA (AV An (AB 0) AH) AE)) AE)))) AY) (AG (Ai 1 nd (CB (AA (AV An (AB 0) AH) AE))) (AG (Bz PassesOwn.never rfl (CV (EM (AB 0) (Bn AH) B7)) (CS 2 nd) (AK (Ai 1 nd (Ao Bg (AB 1) (AS (hkj:=AAE _) ih hr (AA (AB 2) AE)))))) (AK (AW (AB 1)))))))).mono (by omega)
theorem PD:Fn P w K mg base "_law_row_text" ["_law_row_here"] 8 (FF):=by
 obtain⟨f,fd,d⟩:=a.e8;exact DF (k:=7) .all d.F sc_Lrow_text (PySem.W.mg_of a.X a.G d.a) (d.F.binds λ_ _ _ _ _ _=>lq1 λ_=>rfl) (λ_ _ _ _ _ _ hr=>have nd:=sc_Lrow_text.nd;(AG (At (RW.rt (GE (AZ (Bw hr) (AV An (AB 0) AH) AL) (FJ (AZ (Bw hr) (AV An (AB 0) AH) AL)))) (AK (AW (Ao Bg (Ao Bg (Ao Bg (Ao Bg (AV An (AB 0) AH) AL) (AV An (AB 0) AH)) AL) (DA PySem.F.slot_str_join PySem.F.type_str_join Ge AL (AA (AS (La a 6) hr (AA (AV An (AB 0) AH) AE)) AE))))) AY) (AG (At (AZ (Bw hr) (AV An (AB 0) AH) AL) (AK (AW (Ao Bg (Ao Bg (Ao Bg AL (A8 HV a.y12 Mi.B6 (AA (AV An (AB 0) AH) AE))) AL) (DA PySem.F.slot_str_join PySem.F.type_str_join Ge AL (AA (AS (La a 6) hr (AA (AV An (AB 0) AH) AE)) AE))))) AY) (AG (At (AZ (Bw hr) (AV An (AB 0) AH) AL) (AK (AW (Ao Bg AL (DA PySem.F.slot_str_join PySem.F.type_str_join Ge AL (AA (AS (La a 6) hr (AA (AV An (AB 0) AH) AE)) AE))))) AY) (AG (At (AZ (Bw hr) (AV An (AB 0) AH) AL) (AK (AW (Ao Bg AL (A8 HV a.y12 Mi.B6 (AA (AV An (AB 0) AH) AE))))) AY) (AK (AW (DA PySem.F.slot_str_join PySem.F.type_str_join Ge AL (AA (AB 0) AE)))))))))
theorem YX:Fn P w K mg base "_law_text" ["_law_making_here"] 9 (J9):=by
 obtain⟨f,fd,d⟩:=a.e9;exact A7 (k:=8) .drop d.F sc_Ltext (PySem.W.mg_of a.X a.G d.a) (d.F.binds λ_ _ _ _ _ _=>lq1 λ_=>rfl) (λ_ _ _ _ _ _ hr=>have nd:=sc_Ltext.nd;(AG (Ai 1 nd (CT (AA (Ao Bg (Ao Bg (Ao Bg (Ao Bg (Ao Bg AL (AV An (AB 0) AH)) AL) (A8 HV a.y12 Mi.B6 (AA (AV An (AB 0) AH) AE))) AL) (A8 HV a.y12 Mi.B6 (AA (AV An (AB 0) AH) AE))) AE))) (AG (Bz PassesOwn.never rfl (CV (AV An (AB 0) AH)) (Hh (is:=[2,3,4,5,6]) rfl (BJ (Az (i:=2) nd rfl (by first|exact Or.inl rfl|exact Or.inr rfl)) (BJ (Az (i:=3) nd rfl (by first|exact Or.inl rfl|exact Or.inr rfl)) (BJ (Az (i:=4) nd rfl (by first|exact Or.inl rfl|exact Or.inr rfl)) (BJ (Az (i:=5) nd rfl (by first|exact Or.inl rfl|exact Or.inr rfl)) (BJ (Az (i:=6) nd rfl (by first|exact Or.inl rfl|exact Or.inr rfl)) EV)))))) (AK (Ae (BS PySem.F.slot_list_append PySem.F.type_list_append Cm (AB 1) (AA (DA PySem.F.slot_str_join PySem.F.type_str_join Ge AL (AA (CB (AA AL (AA (AB 2) (AA (AB 3) (AA (A8 HV a.y12 Mi.B6 (AA (AB 4) AE)) (AA (A8 HV a.y12 Mi.B6 (AA (AB 5) AE)) (AA (AB 6) AE))))))) AE)) AE))))) (AG (Bz PassesOwn.never rfl (CV (AV An (AB 0) AH)) (Hh (is:=[2,7,8]) rfl (BJ (Az (i:=2) nd rfl (by first|exact Or.inl rfl|exact Or.inr rfl)) (BJ (Az (i:=7) nd rfl (by first|exact Or.inl rfl|exact Or.inr rfl)) (BJ (Az (i:=8) nd rfl (by first|exact Or.inl rfl|exact Or.inr rfl)) EV)))) (AG (Ae (BS PySem.F.slot_list_append PySem.F.type_list_append Cm (AB 1) (AA (Ao Bg (Ao Bg (Ao Bg AL (AB 2)) AL) (A8 HV a.y12 Mi.B6 (AA (AB 7) AE))) AE))) (AK (Ai 1 nd (Ao aG (AB 1) (Fy (tgs:=["_law_row_here"]) (ix:=[]) (i:=0) (n:=1) ⟨rfl,by decide +kernel,by decide +kernel,trivial,rfl,by decide +kernel⟩ rfl (CV (AB 8)) (λ_ _ _ _=>Az (i:=0) (show List.Nodup (["_law_row_here"]:List Str) from by decide +kernel) rfl (Or.inl rfl)) (λ_ _ _ _=>C0) (λ_ _ _ _=>(AS (PD a) hr (AA (AB 0) AE))))))))) (AK (AW (DA PySem.F.slot_str_join PySem.F.type_str_join Ge AL (AA (AB 1) AE))))))))
theorem Ev:Fn P w K mg base "turned_round" ["word", "parts"] 1 (B3):=by
 obtain⟨f,fd,d⟩:=a.e10;exact DF (k:=0) .all d.F sc_turned_round (PySem.W.mg_of a.X a.G d.a) (d.F.binds λ_ _ _ _ _ _=>lq2 λ_ _=>rfl) (λ_ _ _ _ _ _ hr=>have nd:=sc_turned_round.nd;(AK (AW (L5 (AZ (Bw hr) (AB 0) AL) (XF (AB 1) (Ux Va AH)) (AB 1)))))
theorem QN(n:Nat):Fn P w K mg base "words_of" ["thing"] (n+1) (B2 n):=by
 obtain⟨f,fd,d⟩:=a.e11
 induction n with
 |zero=>exact Fc d.F (PySem.W.mg_of a.X a.G d.a) (d.F.binds λ_ _ _ _ _ _=>lq1 λ_=>rfl)
 |succ n ih=>exact(A7 (k:=n+1) .frz d.F sc_words_of (PySem.W.mg_of a.X a.G d.a) (d.F.binds λ_ _ _ _ _ _=>lq1 λ_=>rfl) (λ_ _ _ _ _ _ hr=>have nd:=sc_words_of.nd;(AG (At (FK (DW (AX D5 a.y5 Mi.Ay (AA (AB 0) (AA (Cq a.y13 Mi.Br) AE))))) (AK (AW (CB (AA (A8 HV a.y12 Mi.B6 (AA (AB 0) AE)) AE)))) AY) (AG (At (AZ Hk (AV An (AB 0) AH) (A4 (AA AL (AA AL AE)))) (AK (AW (CB (AA (A8 HV a.y12 Mi.B6 (AA (AV An (AB 0) AH) AE)) AE)))) AY) (AG (Ai 1 nd (CT (AA (AV An (AB 0) AH) AE))) (AG (Bz PassesOwn.never rfl (CV (EM (AB 0) (Bn AH) B7)) (CS 2 nd) (AK (Ae (BS PySem.F.slot_list_extend PySem.F.type_list_extend Gf (AB 1) (AA (AS (hkj:=AAE _) ih hr (AA (AB 2) AE)) AE))))) (AK (AW (AB 1))))))))).mono (by omega)
theorem O8:Fn P w K mg base "shown_row" ["row"] 8 (Bk):=by
 obtain⟨f,fd,d⟩:=a.e12;exact A7 (k:=7) .drop d.F sc_shown_row (PySem.W.mg_of a.X a.G d.a) (d.F.binds λ_ _ _ _ _ _=>lq1 λ_=>rfl) (λ_ _ _ _ _ _ hr=>have nd:=sc_shown_row.nd;(AG (Ai 1 nd (CT (AA (AV An (AB 0) AH) AE))) (AG (Bz PassesOwn.never rfl (CV (AS (Ev a) hr (AA (AV An (AB 0) AH) (AA (EM (AB 0) (Bn AH) B7) AE)))) (CS 2 nd) (AK (Ae (BS PySem.F.slot_list_extend PySem.F.type_list_extend Gf (AB 1) (AA (AS (QN a 6) hr (AA (AB 2) AE)) AE))))) (AK (AW (DA PySem.F.slot_str_join PySem.F.type_str_join Ge AL (AA (AB 1) AE)))))))
theorem Dp:Fn P w K mg base "shown_making" ["making"] 9 (CW):=by
 obtain⟨f,fd,d⟩:=a.e13;exact A7 (k:=8) .drop d.F sc_shown_making (PySem.W.mg_of a.X a.G d.a) (d.F.binds λ_ _ _ _ _ _=>lq1 λ_=>rfl) (λ_ _ _ _ _ _ hr=>have nd:=sc_shown_making.nd;(AG (Ai 1 nd (CT (AA (Ao Bg (A4 (AA AL AE)) (EM (AB 0) B7 (Bn AH))) AE))) (AG (Bz PassesOwn.never rfl (CV (AV An (AB 0) AH)) (CS 2 nd) (AK (Ae (BS PySem.F.slot_list_append PySem.F.type_list_append Cm (AB 1) (AA (Ao Bg (A4 (AA AL AE)) (AB 2)) AE))))) (AG (Bz PassesOwn.never rfl (CV (AV An (AB 0) AH)) (CS 3 nd) (AG (Ae (BS PySem.F.slot_list_append PySem.F.type_list_append Cm (AB 1) (AA (Ao Bg (A4 (AA AL AE)) (EM (AB 3) B7 (Bn AH))) AE))) (AK (Ae (BS PySem.F.slot_list_extend PySem.F.type_list_extend So (AB 1) (AA (AV An (AB 3) AH) AE)))))) (AK (AW (DA PySem.F.slot_str_join PySem.F.type_str_join Ge AL (AA (Kp (by wtm_at "j") (by wtm_at "j") (tgs:=["row"]) (ix:=[]) (i:=0) (n:=1) ⟨rfl,by decide +kernel,by decide +kernel,trivial,rfl,by decide +kernel⟩ rfl (Pf (AB 1)) (λ_ _ _ _=>Az (i:=0) (show List.Nodup (["row"]:List Str) from by decide +kernel) rfl (Or.inl rfl)) (λ_ _ _ _=>C0) (λ_ _ _ _=>(ZY (O8 a) hr (AA (AB 0) AE)))) AE))))))))
theorem IC:Ini P w K mg base "Reading" ["self"] 1 (Ci):=by
 obtain⟨C,f,fd,d⟩:=a.e14;obtain⟨fQ,ST⟩:=a.e45;exact TD (k:=0) .all d sc_Reading___init__ (PySem.W.mg_of a.X a.G d.at_) (d.F.binds λ_ _ _ _ _ _=>lq1 λ_=>rfl) (λ_ _ _ _ _ _ hr=>have nd:=sc_Reading___init__.nd;(AG (Kl ST.ca (ST.na "made" (by decide +kernel)) (AB 0) Bv) (AG (Kl ST.ca (ST.na "boxes" (by decide +kernel)) (AB 0) (CT AE)) (AG (Kl ST.ca (ST.na "hands" (by decide +kernel)) (AB 0) (CT AE)) (AK (Kl ST.ca (ST.na "programs" (by decide +kernel)) (AB 0) (CT AE)))))))
theorem Eg:Fn P w K mg base "is_name" ["thing"] 1 (CY):=by
 obtain⟨f,fd,d⟩:=a.e15;exact A7 (k:=0) .drop d.F sc_is_name (PySem.W.mg_of a.X a.G d.a) (d.F.binds λ_ _ _ _ _ _=>lq1 λ_=>rfl) (λ_ _ _ _ _ _ hr=>have nd:=sc_is_name.nd;(AK (AW (Dv (AX D5 a.y5 Mi.Ay (AA (AB 0) (AA (Cq a.y12 Mi.B6) AE))) (Dv (Kq OP OP AH (AX B5 a.y6 Mi.Au (AA (AB 0) AE)) AH) (El (AX (WQ rfl) a.y0 Mi.LR (AA (Fy (tgs:=["sign"]) (ix:=[]) (i:=0) (n:=1) ⟨rfl,by decide +kernel,by decide +kernel,trivial,rfl,by decide +kernel⟩ rfl (Ur (AB 0)) (λ_ _ _ _=>Az (i:=0) (show List.Nodup (["sign"]:List Str) from by decide +kernel) rfl (Or.inl rfl)) (λ_ _ _ _=>C0) (λ_ _ _ _=>(Bo Hk (AB 0) (C1 a.g6)))) AE))))))))
theorem Lk:Fn P w K mg base "read_ground" ["word"] 2 (BP):=by
 obtain⟨f,fd,d⟩:=a.e16;exact DF (k:=1) .all d.F sc_read_ground (PySem.W.mg_of a.X a.G d.a) (d.F.binds λ_ _ _ _ _ _=>lq1 λ_=>rfl) (λ_ _ _ _ _ _ hr=>have nd:=sc_read_ground.nd;(AG (At (RW.rt (GE (AZ Hk (AB 0) (C1 a.g14)) (FJ (AZ (Bw hr) (AB 0) AL)))) (AK (AW Bv)) AY) (AG (At (DW (AS (Eg a) hr (AA (AB 0) AE))) (AK (AW (A4 (AA AL (AA (AB 0) AE))))) AY) (AK (AW (L5 (RW.rt (He (AZ (Bw hr) (AX B5 a.y6 Mi.Au (AA (AB 0) AE)) AH) (Fx (AZ Hk (AB 0) (C1 a.g1))))) (A4 (AA AL (AA (A8 WN a.y4 Mi.Fg (AA (AB 0) AE)) AE))) Bv))))))
theorem PB:Fn P w K mg base "read_nest" ["word", "ready"] 1 (C4):=by
 obtain⟨f,fd,d⟩:=a.e17;exact DF (k:=0) .all d.F sc_read_nest (PySem.W.mg_of a.X a.G d.a) (d.F.binds λ_ _ _ _ _ _=>lq2 λ_ _=>rfl) (λ_ _ _ _ _ _ hr=>have nd:=sc_read_nest.nd;(AG (At (RW.rt (He (AZ Hk (AB 0) (C1 a.g14)) (Fx (AZ cj (AX B5 a.y6 Mi.Au (AA (AB 1) AE)) AH)))) (AG (Ai 2 nd (JK PySem.F.slot_list_pop PySem.F.type_list_pop Ve (AB 1))) (AK (AW (A4 (AA (AB 0) (AA (AB 2) (AA (JK PySem.F.slot_list_pop PySem.F.type_list_pop Ve (AB 1)) AE))))))) AY) (AG (At (RW.rt (He (AZ (Bw hr) (AB 0) AL) (Fx (AZ cj (AX B5 a.y6 Mi.Au (AA (AB 1) AE)) AH)))) (AK (AW (A4 (AA (AB 0) (AA (JK PySem.F.slot_list_pop PySem.F.type_list_pop Ve (AB 1)) AE))))) AY) (AK (AW Bv)))))
theorem Ix:Fn P w K mg base "read_expression" ["words"] 3 (Ct):=by
 obtain⟨f,fd,d⟩:=a.e18;exact A7 (k:=2) .drop d.F sc_read_expression (PySem.W.mg_of a.X a.G d.a) (d.F.binds λ_ _ _ _ _ _=>lq1 λ_=>rfl) (λ_ _ _ _ _ _ hr=>have nd:=sc_read_expression.nd;(AG (Ai 1 nd (CT AE)) (AG (Bz PassesOwn.never rfl (XD a.y10 (AA (AB 0) AE)) (CS 2 nd) (AG (Ai 3 nd (AS (Lk a) hr (AA (AB 2) AE))) (AG (At (AZ OQ (AB 3) Bv) (AK (Ai 3 nd (AS (PB a) hr (AA (AB 2) (AA (AB 1) AE))))) AY) (AG (At (AZ OQ (AB 3) Bv) (AK (AW Bv)) AY) (AK (Ae (BS PySem.F.slot_list_append PySem.F.type_list_append Cm (AB 1) (AA (AB 3) AE)))))))) (AK (AW (L5 (AZ (Bw hr) (AX B5 a.y6 Mi.Au (AA (AB 1) AE)) AH) (AV An (AB 1) AH) Bv))))))
theorem Lj:Fn P w K mg base "read_number" ["word", "most_figures"] 1 (EC):=by
 obtain⟨f,fd,d⟩:=a.e19;exact DF (k:=0) .all d.F sc_read_number (PySem.W.mg_of a.X a.G d.a) (d.F.binds λ_ _ _ _ _ _=>lq2 λ_ _=>rfl) (λ_ _ _ _ _ _ hr=>have nd:=sc_read_number.nd;(AG (At (RW.rt (GE (FK (Uj OP OP AH (AX B5 a.y6 Mi.Au (AA (AB 0) AE)) (AB 1))) (FJ (FK (DW (AX (WQ rfl) a.y0 Mi.LR (AA (Fy (tgs:=["sign"]) (ix:=[]) (i:=0) (n:=1) ⟨rfl,by decide +kernel,by decide +kernel,trivial,rfl,by decide +kernel⟩ rfl (Ur (AB 0)) (λ_ _ _ _=>Az (i:=0) (show List.Nodup (["sign"]:List Str) from by decide +kernel) rfl (Or.inl rfl)) (λ_ _ _ _=>C0) (λ_ _ _ _=>(Bo Hk (AB 0) (C1 a.g1)))) AE))))))) (AK (AW Bv)) AY) (AG (At (RW.rt (He (AZ (Bw hr) (AV An (AB 0) AH) AL) (Fx (AZ (JM hr) (AB 0) AL)))) (AK (AW Bv)) AY) (AK (AW (A8 WN a.y4 Mi.Fg (AA (AB 0) AE)))))))
theorem O9:Fn P w K mg base "read_part" ["part", "word"] 4 (Cc):=by
 obtain⟨f,fd,d⟩:=a.e20;exact DF (k:=3) .all d.F sc_read_part (PySem.W.mg_of a.X a.G d.a) (d.F.binds λ_ _ _ _ _ _=>lq2 λ_ _=>rfl) (λ_ _ _ _ _ _ hr=>have nd:=sc_read_part.nd;(AG (At (AZ (Bw hr) (AB 0) AL) (AK (AW (AS (Ix a) hr (AA (AB 1) AE)))) AY) (AG (At (AZ Hk (AB 0) (A4 (AA AL (AA AL AE)))) (AK (AW (AS (Lj a) hr (AA (AB 1) (AA (C1 a.g8) AE))))) AY) (AG (At (AZ (Bw hr) (AB 0) AL) (AK (AW (L5 (AZ Hk (AB 1) (C1 a.g3)) (AB 1) Bv))) AY) (AK (AW (L5 (DW (AS (Eg a) hr (AA (AB 1) AE))) (AB 1) Bv)))))))
theorem No:Fn P w K mg base "read_parts" ["parts", "words"] 5 (Ch):=by
 obtain⟨f,fd,d⟩:=a.e21;exact DF (k:=4) .all d.F sc_read_parts (PySem.W.mg_of a.X a.G d.a) (d.F.binds λ_ _ _ _ _ _=>lq2 λ_ _=>rfl) (λ_ _ _ _ _ _ hr=>have nd:=sc_read_parts.nd;(AG (At (AZ Hk AL (AB 0)) (AG (Ai 2 nd (Ao GY (AX B5 a.y6 Mi.Au (AA (AB 0) AE)) AH)) (AK (Ai 1 nd (Ao Bg (EM (AB 1) B7 (Bn (AB 2))) (CB (AA (EM (AB 1) (Bn (AB 2)) B7) AE)))))) AY) (AG (At (AZ (JM hr) (AX B5 a.y6 Mi.Au (AA (AB 1) AE)) (AX B5 a.y6 Mi.Au (AA (AB 0) AE))) (AK (AW Bv)) AY) (AG (OI none 3 (tgs:=["part", "word"]) (ix:=[]) (is:=[0,1]) (n:=2) nd ⟨rfl,by decide +kernel,by decide +kernel,trivial,rfl,by decide +kernel⟩ rfl (XB a.y14 (AA (AB 0) (AA (AB 1) AE))) (λ_ _ _ _=>(BJ (Az (i:=0) (show List.Nodup (["part", "word"]:List Str) from by decide +kernel) rfl (Or.inl rfl)) (BJ (Az (i:=1) (show List.Nodup (["part", "word"]:List Str) from by decide +kernel) rfl (Or.inl rfl)) EV))) (λ_ _ _ _=>L7) (λ_ _ _ _=>(AS (O9 a) hr (AA (AB 0) (AA (AB 1) AE)))) (λ_ _ _ _ _ _ _ _ R i e q=>EA R i e q)) (AK (AW (L5 (DW (AX (df rfl) a.y1 Mi.WT (AA (Fy (tgs:=["thing"]) (ix:=[]) (i:=0) (n:=1) ⟨rfl,by decide +kernel,by decide +kernel,trivial,rfl,by decide +kernel⟩ rfl (CV (AB 3)) (λ_ _ _ _=>Az (i:=0) (show List.Nodup (["thing"]:List Str) from by decide +kernel) rfl (Or.inl rfl)) (λ_ _ _ _=>C0) (λ_ _ _ _=>(Bo OQ (AB 0) Bv))) AE))) Bv (AB 3))))))))
theorem QP:Fn P w K mg base "read_row" ["line"] 6 (BZ):=by
 obtain⟨f,fd,d⟩:=a.e22;exact DF (k:=5) .all d.F sc_read_row (PySem.W.mg_of a.X a.G d.a) (d.F.binds λ_ _ _ _ _ _=>lq1 λ_=>rfl) (λ_ _ _ _ _ _ hr=>have nd:=sc_read_row.nd;(AG (Ai 1 nd (DA PySem.F.slot_str_split PySem.F.type_str_split RK (AB 0) (AA AL AE))) (AG (Ai 2 nd (Yg a.g15 (AA (AV An (AB 1) AH) (AA (Yg a.g16 (AA (AV An (AB 1) AH) AE)) AE)))) (AG (At (AZ OQ (AB 2) Bv) (AK (AW Bv)) AY) (AG (Ai 3 nd (AS (No a) hr (AA (AS (Ev a) hr (AA (AV An (AB 1) AH) (AA (AB 2) AE))) (AA (EM (AB 1) (Bn AH) B7) AE)))) (AG (At (AZ OQ (AB 3) Bv) (AK (AW Bv)) AY) (AK (AW (Ao Bg (A4 (AA (AV An (AB 1) AH) AE)) (AS (Ev a) hr (AA (AV An (AB 1) AH) (AA (A8 F9 a.y13 Mi.Br (AA (AB 3) AE)) AE))))))))))))
theorem Gu:Mth P w K mg base "Reading" "lets_stand" ["self", "word"] 1 (Aj):=by
 obtain⟨C,f,fd,d⟩:=a.e23;obtain⟨fQ,ST⟩:=a.e45;exact JN (k:=0) .all d sc_Reading_lets_stand (d.F.binds λ_ _ _ _ _ _=>lq2 λ_ _=>rfl) (λ_ _ _ _ _ _ hr=>have nd:=sc_Reading_lets_stand.nd;(AG (At (AZ (Bw hr) (AB 1) AL) (AK (AW (Bo OQ (C9 ST.ca (ST.na "made" (by decide +kernel)) (AB 0)) Bv))) AY) (AG (At (AZ OQ (C9 ST.ca (ST.na "made" (by decide +kernel)) (AB 0)) Bv) (AK (AW L6)) AY) (AG (At (AZ (Bw hr) (AB 1) AL) (AK (AW (Dv (Bo (Bw hr) (AX B5 a.y6 Mi.Au (AA (C9 ST.ca (ST.na "hands" (by decide +kernel)) (AB 0)) AE)) AH) (El (Bo Le (AX B5 a.y6 Mi.Au (AA (C9 ST.ca (ST.na "boxes" (by decide +kernel)) (AB 0)) AE)) (C1 a.g7)))))) AY) (AG (At (AZ (Bw hr) (AB 1) AL) (AK (AW (Bo Le (AX B5 a.y6 Mi.Au (AA (C9 ST.ca (ST.na "hands" (by decide +kernel)) (AB 0)) AE)) (C1 a.g9)))) AY) (AK (AW (Dv (Bo aF (AX B5 a.y6 Mi.Au (AA (C9 ST.ca (ST.na "hands" (by decide +kernel)) (AB 0)) AE)) AH) (El (Bo Le (AX B5 a.y6 Mi.Au (AA (AV An (C9 ST.ca (ST.na "programs" (by decide +kernel)) (AB 0)) (Ux Va AH)) AE)) (C1 a.g10)))))))))))
theorem LZ:Mth P w K mg base "Reading" "take" ["self", "row"] 1 (A2):=by
 obtain⟨C,f,fd,d⟩:=a.e24;obtain⟨fQ,ST⟩:=a.e45;exact JN (k:=0) .all d sc_Reading_take (d.F.binds λ_ _ _ _ _ _=>lq2 λ_ _=>rfl) (λ_ _ _ _ _ _ hr=>have nd:=sc_Reading_take.nd;(AK (At (AZ (Bw hr) (AV An (AB 1) AH) AL) (AK (Kl ST.ca (ST.na "made" (by decide +kernel)) (AB 0) (EM (AB 1) (Bn AH) B7))) (AK (At (AZ (Bw hr) (AV An (AB 1) AH) AL) (AK (Ae (BS PySem.F.slot_list_append PySem.F.type_list_append Cm (C9 ST.ca (ST.na "boxes" (by decide +kernel)) (AB 0)) (AA (EM (AB 1) (Bn AH) B7) AE)))) (AK (At (AZ (Bw hr) (AV An (AB 1) AH) AL) (AG (Ae (BS PySem.F.slot_list_append PySem.F.type_list_append Cm (C9 ST.ca (ST.na "hands" (by decide +kernel)) (AB 0)) (AA (EM (AB 1) (Bn AH) B7) AE))) (AK (Ae (BS PySem.F.slot_list_append PySem.F.type_list_append Cm (C9 ST.ca (ST.na "programs" (by decide +kernel)) (AB 0)) (AA (CT AE) AE))))) (AK (Ae (BS PySem.F.slot_list_append PySem.F.type_list_append Cm (AV An (C9 ST.ca (ST.na "programs" (by decide +kernel)) (AB 0)) (Ux Va AH)) (AA (AB 1) AE)))))))))))
theorem GJ:Mth P w K mg base "Reading" "told_making" ["self"] 1 (B8):=by
 obtain⟨C,f,fd,d⟩:=a.e25;obtain⟨fQ,ST⟩:=a.e45;exact JN (k:=0) .all d sc_Reading_told_making (d.F.binds λ_ _ _ _ _ _=>lq1 λ_=>rfl) (λ_ _ _ _ _ _ hr=>have nd:=sc_Reading_told_making.nd;(AG (M5 none 1 (by wtm_at "j") (by wtm_at "j") (tgs:=["hand", "rows"]) (ix:=[]) (is:=[0,1]) (n:=2) nd ⟨rfl,by decide +kernel,by decide +kernel,trivial,rfl,by decide +kernel⟩ rfl (XA a.y14 (AA (C9 ST.ca (ST.na "hands" (by decide +kernel)) (AB 0)) (AA (C9 ST.ca (ST.na "programs" (by decide +kernel)) (AB 0)) AE))) (λ_ _ _ _=>(BJ (Az (i:=0) (show List.Nodup (["hand", "rows"]:List Str) from by decide +kernel) rfl (Or.inl rfl)) (BJ (Az (i:=1) (show List.Nodup (["hand", "rows"]:List Str) from by decide +kernel) rfl (Or.inl rfl)) EV))) (λ_ _ _ _=>L7) (λ_ _ _ _=>(Ao Bg (AB 0) (A4 (AA (A8 F9 a.y13 Mi.Br (AA (AB 1) AE)) AE)))) (λ_ _ _ _ _ _ _ _ R i e q=>EA R i e q)) (AK (AW (Ao Bg (C9 ST.ca (ST.na "made" (by decide +kernel)) (AB 0)) (A4 (AA (A8 F9 a.y13 Mi.Br (AA (C9 ST.ca (ST.na "boxes" (by decide +kernel)) (AB 0)) AE)) (AA (A8 F9 a.y13 Mi.Br (AA (AB 1) AE)) AE))))))))
theorem DQ:Fn P w K mg base "is_tuple" ["thing", "least", "most"] 1 (CN):=by
 obtain⟨f,fd,d⟩:=a.e26;exact A7 (k:=0) .drop d.F sc_is_tuple (PySem.W.mg_of a.X a.G d.a) (d.F.binds λ_ _ _ _ _ _=>lq3 λ_ _ _=>rfl) (λ_ _ _ _ _ _ hr=>have nd:=sc_is_tuple.nd;(AK (AW (Dv (AX D5 a.y5 Mi.Ay (AA (AB 0) (AA (Cq a.y13 Mi.Br) AE))) (El (Kq OP OP (AB 1) (AX B5 a.y6 Mi.Au (AA (AB 0) AE)) (AB 2)))))))
theorem Bm:Fn P w K mg base "need" ["holds", "words"] 1 (B4):=by
 obtain⟨f,fd,d⟩:=a.e27;exact A7 (k:=0) .drop d.F sc_need (PySem.W.mg_of a.X a.G d.a) (d.F.binds λ_ _ _ _ _ _=>lq2 λ_ _=>rfl) (λ_ _ _ _ _ _ hr=>have nd:=sc_need.nd;(AK (At (FK (DW (AB 0))) (AK IX) AY)))
theorem Ew:Fn P w K mg base "is_whole" ["thing", "least", "most"] 1 (DP):=by
 obtain⟨f,fd,d⟩:=a.e28;exact A7 (k:=0) .drop d.F sc_is_whole (PySem.W.mg_of a.X a.G d.a) (d.F.binds λ_ _ _ _ _ _=>lq3 λ_ _ _=>rfl) (λ_ _ _ _ _ _ hr=>have nd:=sc_is_whole.nd;(AK (AW (Dv (AX D5 a.y5 Mi.Ay (AA (AB 0) (AA (Cq a.y4 Mi.Fg) AE))) (Dv (Uy (AX D5 a.y5 Mi.Ay (AA (AB 0) (AA (Cq a.y2 Mi.MZ) AE)))) (El (Kq OP OP (AB 1) (AB 0) (AB 2))))))))
theorem Gs:Fn P w K mg base "check_worths" ["kind", "size", "begin"] 2 (CZ):=by
 obtain⟨f,fd,d⟩:=a.e29;exact A7 (k:=1) .drop d.F sc_check_worths (PySem.W.mg_of a.X a.G d.a) (d.F.binds λ_ _ _ _ _ _=>lq3 λ_ _ _=>rfl) (λ_ _ _ _ _ _ hr=>have nd:=sc_check_worths.nd;(AG (Ae (AS (Bm a) hr (AA (Bo Hk (AB 0) (C1 a.g3)) (AA AL AE)))) (AG (Ae (AS (Bm a) hr (AA (AS (Ew a) hr (AA (AB 1) (AA (C1 a.g5) (AA (C1 a.g11) AE)))) (AA AL AE)))) (AK (Ae (AS (Bm a) hr (AA (AS (Ew a) hr (AA (AB 2) (AA AH (AA (Ao GY (AB 1) AH) AE)))) (AA AL AE))))))))
theorem Iz:Fn P w K mg base "are_unlike" ["names"] 1 (EZ):=by
 obtain⟨f,fd,d⟩:=a.e30;exact A7 (k:=0) .drop d.F sc_are_unlike (PySem.W.mg_of a.X a.G d.a) (d.F.binds λ_ _ _ _ _ _=>lq1 λ_=>rfl) (λ_ _ _ _ _ _ hr=>have nd:=sc_are_unlike.nd;(AK (AW (Bo (Bw hr) (SV a.y6 a.y11 (AB 0)) (AX B5 a.y6 Mi.Au (AA (AB 0) AE))))))
theorem Lm:Fn P w K mg base "check_boxes" ["boxes"] 3 (EE):=by
 obtain⟨f,fd,d⟩:=a.e31;exact A7 (k:=2) .drop d.F sc_check_boxes (PySem.W.mg_of a.X a.G d.a) (d.F.binds λ_ _ _ _ _ _=>lq1 λ_=>rfl) (λ_ _ _ _ _ _ hr=>have nd:=sc_check_boxes.nd;(AG (Ae (AS (Bm a) hr (AA (AS (DQ a) hr (AA (AB 0) (AA AH (AA (C1 a.g7) AE)))) (AA AL AE)))) (AG (Bz PassesOwn.never rfl (CV (AB 0)) (CS 1 nd) (AG (Ae (AS (Bm a) hr (AA (AS (DQ a) hr (AA (AB 1) (AA AH (AA AH AE)))) (AA AL AE)))) (AG (Ae (AS (Bm a) hr (AA (AS (Eg a) hr (AA (AV An (AB 1) AH) AE)) (AA AL AE)))) (AK (Ae (AS (Gs a) hr (AA (AV An (AB 1) AH) (AA (AV An (AB 1) AH) (AA (AV An (AB 1) AH) AE))))))))) (AK (Ae (AS (Bm a) hr (AA (AS (Iz a) hr (AA (Fy (tgs:=["box"]) (ix:=[]) (i:=0) (n:=1) ⟨rfl,by decide +kernel,by decide +kernel,trivial,rfl,by decide +kernel⟩ rfl (CV (AB 0)) (λ_ _ _ _=>Az (i:=0) (show List.Nodup (["box"]:List Str) from by decide +kernel) rfl (Or.inl rfl)) (λ_ _ _ _=>C0) (λ_ _ _ _=>(AV An (AB 0) AH))) AE)) (AA AL AE))))))))
theorem Ll:Fn P w K mg base "check_hands" ["hands"] 2 (ED):=by
 obtain⟨f,fd,d⟩:=a.e32;exact A7 (k:=1) .drop d.F sc_check_hands (PySem.W.mg_of a.X a.G d.a) (d.F.binds λ_ _ _ _ _ _=>lq1 λ_=>rfl) (λ_ _ _ _ _ _ hr=>have nd:=sc_check_hands.nd;(AG (Ae (AS (Bm a) hr (AA (AS (DQ a) hr (AA (AB 0) (AA (C1 a.g4) (AA (C1 a.g9) AE)))) (AA AL AE)))) (AG (Bz PassesOwn.never rfl (CV (AB 0)) (CS 1 nd) (AG (Ae (AS (Bm a) hr (AA (AS (DQ a) hr (AA (AB 1) (AA AH (AA AH AE)))) (AA AL AE)))) (AG (Ae (AS (Bm a) hr (AA (AS (Eg a) hr (AA (AV An (AB 1) AH) AE)) (AA AL AE)))) (AG (Ae (AS (Bm a) hr (AA (AS (Ew a) hr (AA (AV An (AB 1) AH) (AA AH (AA (C1 a.g12) AE)))) (AA AL AE)))) (AK (Ae (AS (Bm a) hr (AA (AS (DQ a) hr (AA (AV An (AB 1) AH) (AA AH (AA (C1 a.g10) AE)))) (AA AL AE))))))))) (AK (Ae (AS (Bm a) hr (AA (AS (Iz a) hr (AA (Fy (tgs:=["hand"]) (ix:=[]) (i:=0) (n:=1) ⟨rfl,by decide +kernel,by decide +kernel,trivial,rfl,by decide +kernel⟩ rfl (CV (AB 0)) (λ_ _ _ _=>Az (i:=0) (show List.Nodup (["hand"]:List Str) from by decide +kernel) rfl (Or.inl rfl)) (λ_ _ _ _=>C0) (λ_ _ _ _=>(AV An (AB 0) AH))) AE)) (AA AL AE))))))))
theorem Jy(n:Nat):Fn P w K mg base "is_expression" ["thing", "deep"] (n+2) (DI n):=by
 obtain⟨f,fd,d⟩:=a.e33
 induction n with
 |zero=>exact Fc d.F (PySem.W.mg_of a.X a.G d.a) (d.F.binds λ_ _ _ _ _ _=>lq2 λ_ _=>rfl)
 |succ n ih=>exact(A7 (k:=n+2) .drop d.F sc_is_expression (PySem.W.mg_of a.X a.G d.a) (d.F.binds λ_ _ _ _ _ _=>lq2 λ_ _=>rfl) (λ_ _ _ _ _ _ hr=>have nd:=sc_is_expression.nd;(AG (At (RW.rt (GE (AZ Le (AB 1) AH) (GE (FK (DW (AX D5 a.y5 Mi.Ay (AA (AB 0) (AA (Cq a.y13 Mi.Br) AE))))) (FJ (AZ (Bw hr) (AX B5 a.y6 Mi.Au (AA (AB 0) AE)) AH))))) (AK (AW L6)) AY) (AG (Ai 2 nd (AV An (AB 0) AH)) (AG (At (AZ Hk (AB 2) (C1 a.g14)) (AK (AW (Dv (Bo (Bw hr) (AX B5 a.y6 Mi.Au (AA (AB 0) AE)) AH) (Dv (AS (hkj:=AAE _) ih hr (AA (AV An (AB 0) AH) (AA (Ao GY (AB 1) AH) AE))) (El (AS (hkj:=AAE _) ih hr (AA (AV An (AB 0) AH) (AA (Ao GY (AB 1) AH) AE)))))))) AY) (AG (At (AZ (JM hr) (AX B5 a.y6 Mi.Au (AA (AB 0) AE)) AH) (AK (AW L6)) AY) (AG (At (AZ (Bw hr) (AB 2) AL) (AK (AW (AS (hkj:=by omega) (Ew a) hr (AA (AV An (AB 0) AH) (AA AH (AA (C1 a.g2) AE)))))) AY) (AG (At (AZ (Bw hr) (AB 2) AL) (AK (AW (AS (hkj:=by omega) (Eg a) hr (AA (AV An (AB 0) AH) AE)))) AY) (AK (AW (Dv (Bo (Bw hr) (AB 2) AL) (El (AS (hkj:=AAE _) ih hr (AA (AV An (AB 0) AH) (AA (Ao GY (AB 1) AH) AE))))))))))))))).mono (by omega)
theorem Tg:Fn P w K mg base "is_part" ["part", "thing", "length"] 9 (Ee):=by
 obtain⟨f,fd,d⟩:=a.e34;exact A7 (k:=8) .drop d.F sc_is_part (PySem.W.mg_of a.X a.G d.a) (d.F.binds λ_ _ _ _ _ _=>lq3 λ_ _ _=>rfl) (λ_ _ _ _ _ _ hr=>have nd:=sc_is_part.nd;(AG (At (AZ (Bw hr) (AB 0) AL) (AK (AW (AS (Jy a 6) hr (AA (AB 1) (AA (C1 a.g0) AE))))) AY) (AG (At (AZ (Bw hr) (AB 0) AL) (AK (AW (AS (Ew a) hr (AA (AB 1) (AA AH (AA (AB 2) AE)))))) AY) (AK (AW (AS (Eg a) hr (AA (AB 1) AE)))))))
theorem Nq:Fn P w K mg base "check_form" ["row", "length"] 10 (EY):=by
 obtain⟨f,fd,d⟩:=a.e35;exact A7 (k:=9) .drop d.F sc_check_form (PySem.W.mg_of a.X a.G d.a) (d.F.binds λ_ _ _ _ _ _=>lq2 λ_ _=>rfl) (λ_ _ _ _ _ _ hr=>have nd:=sc_check_form.nd;(AG (Ae (AS (Bm a) hr (AA (AS (DQ a) hr (AA (AB 0) (AA AH (AA AH AE)))) (AA AL AE)))) (AG (Ae (AS (Bm a) hr (AA (Dv (AX D5 a.y5 Mi.Ay (AA (AV An (AB 0) AH) (AA (Cq a.y12 Mi.B6) AE))) (El (ZX a.g16 (AV An (AB 0) AH)))) (AA AL AE)))) (AG (Ai 2 nd (Qx a.g16 (AV An (AB 0) AH))) (AG (Ae (AS (Bm a) hr (AA (Bo (Bw hr) (AX B5 a.y6 Mi.Au (AA (AB 0) AE)) (Ao DX AH (AX B5 a.y6 Mi.Au (AA (AB 2) AE)))) (AA AL AE)))) (AK (Bz PassesOwn.never rfl (Qu a.y14 (AA (AB 2) (AA (Ko (AB 0) (Bn AH) B7) AE))) (Hh (is:=[3,4]) rfl (BJ (Az (i:=3) nd rfl (by first|exact Or.inl rfl|exact Or.inr rfl)) (BJ (Az (i:=4) nd rfl (by first|exact Or.inl rfl|exact Or.inr rfl)) EV))) (AK (Ae (AS (Bm a) hr (AA (AS (Tg a) hr (AA (AB 3) (AA (AB 4) (AA (AB 1) AE)))) (AA (SW (Qt AL (Qt (ZZ (AB 3)) ZT))) AE))))))))))))
theorem LY:Fn P w K mg base "check_ending" ["word", "is_writer"] 2 (Ca):=by
 obtain⟨f,fd,d⟩:=a.e36;exact A7 (k:=1) .drop d.F sc_check_ending (PySem.W.mg_of a.X a.G d.a) (d.F.binds λ_ _ _ _ _ _=>lq2 λ_ _=>rfl) (λ_ _ _ _ _ _ hr=>have nd:=sc_check_ending.nd;(AK (At (DW (AB 1)) (AK (Ae (AS (Bm a) hr (AA (Bo (JM hr) (AB 0) AL) (AA AL AE))))) (AK (Ae (AS (Bm a) hr (AA (Bo (JM hr) (AB 0) AL) (AA AL AE))))))))
theorem LW(n:Nat):Fn P w K mg base "variables_in" ["expression"] (n+1) (Bj n):=by
 obtain⟨f,fd,d⟩:=a.e37
 induction n with
 |zero=>exact Fc d.F (PySem.W.mg_of a.X a.G d.a) (d.F.binds λ_ _ _ _ _ _=>lq1 λ_=>rfl)
 |succ n ih=>exact(A7 (k:=n+1) .frz d.F sc_variables_in (PySem.W.mg_of a.X a.G d.a) (d.F.binds λ_ _ _ _ _ _=>lq1 λ_=>rfl) (λ_ _ _ _ _ _ hr=>have nd:=sc_variables_in.nd;(AG (At (AZ (Bw hr) (AV An (AB 0) AH) AL) (AK (AW (CB AE))) AY) (AG (At (AZ (Bw hr) (AV An (AB 0) AH) AL) (AK (AW (CB (AA (AV An (AB 0) AH) AE)))) AY) (AG (Ai 1 nd (CT AE)) (AG (Bz PassesOwn.never rfl (CV (Ko (AB 0) (Bn AH) B7)) (CS 2 nd) (AK (Ae (BS PySem.F.slot_list_extend PySem.F.type_list_extend Gf (AB 1) (AA (AS (hkj:=AAE _) ih hr (AA (AB 2) AE)) AE))))) (AK (AW (AB 1))))))))).mono (by omega)
theorem LV:Fn P w K mg base "variables_of" ["row"] 8 (De):=by
 obtain⟨f,fd,d⟩:=a.e38;exact A7 (k:=7) .frz d.F sc_variables_of (PySem.W.mg_of a.X a.G d.a) (d.F.binds λ_ _ _ _ _ _=>lq1 λ_=>rfl) (λ_ _ _ _ _ _ hr=>have nd:=sc_variables_of.nd;(AG (Ai 1 nd (CT AE)) (AG (Bz PassesOwn.never rfl (Qu a.y14 (AA (Qx a.g16 (AV An (AB 0) AH)) (AA (Ko (AB 0) (Bn AH) B7) AE))) (Hh (is:=[2,3]) rfl (BJ (Az (i:=2) nd rfl (by first|exact Or.inl rfl|exact Or.inr rfl)) (BJ (Az (i:=3) nd rfl (by first|exact Or.inl rfl|exact Or.inr rfl)) EV))) (AG (At (AZ (Bw hr) (AB 2) AL) (AK (Ae (BS PySem.F.slot_list_append PySem.F.type_list_append Cm (AB 1) (AA (AB 3) AE)))) AY) (AK (At (AZ (Bw hr) (AB 2) AL) (AK (Ae (BS PySem.F.slot_list_extend PySem.F.type_list_extend Gf (AB 1) (AA (AS (LW a 6) hr (AA (AB 3) AE)) AE)))) AY)))) (AK (AW (AB 1))))))
theorem Iy:Fn P w K mg base "check_variables" ["row", "is_writer"] 9 (Cu):=by
 obtain⟨f,fd,d⟩:=a.e39;exact A7 (k:=8) .drop d.F sc_check_variables (PySem.W.mg_of a.X a.G d.a) (d.F.binds λ_ _ _ _ _ _=>lq2 λ_ _=>rfl) (λ_ _ _ _ _ _ hr=>have nd:=sc_check_variables.nd;(AG (Bz PassesOwn.never rfl (CV (AS (LV a) hr (AA (AB 0) AE))) (CS 2 nd) (AG (Ae (AS (Bm a) hr (AA (Bo Xo (AB 2) (C1 a.g13)) (AA AL AE)))) (AK (Ae (AS (Bm a) hr (AA (bz (AB 1) (El (Bo (JM hr) (AB 2) AL))) (AA AL AE))))))) (AK (At (AZ Hk (AV An (AB 0) AH) (A4 (AA AL (AA AL AE)))) (AK (Ae (AS (Bm a) hr (AA (Bo (JM hr) (AV An (AB 0) AH) AL) (AA AL AE))))) AY))))
theorem Np:Fn P w K mg base "check_rows" ["hand", "is_writer", "writers"] 11 (EX):=by
 obtain⟨f,fd,d⟩:=a.e40;exact A7 (k:=10) .drop d.F sc_check_rows (PySem.W.mg_of a.X a.G d.a) (d.F.binds λ_ _ _ _ _ _=>lq3 λ_ _ _=>rfl) (λ_ _ _ _ _ _ hr=>have nd:=sc_check_rows.nd;(AK (Bz PassesOwn.never rfl (CV (AV An (AB 0) AH)) (CS 3 nd) (AG (Ae (AS (Nq a) hr (AA (AB 3) (AA (AX B5 a.y6 Mi.Au (AA (AV An (AB 0) AH) AE)) AE)))) (AG (Ae (AS (LY a) hr (AA (AV An (AB 3) AH) (AA (AB 1) AE)))) (AG (Ae (AS (Iy a) hr (AA (AB 3) (AA (AB 1) AE)))) (AG (At (AZ (Bw hr) (AV An (AB 3) AH) AL) (AK (Ae (AS (Bm a) hr (AA (Bo (Bw hr) (U1 hr (AB 2) (AV An (AB 3) AH)) (AV An (AB 0) AH)) (AA AL AE))))) AY) (AK (At (AZ (Bw hr) (AV An (AB 3) AH) AL) (AK (Ae (AS (Bm a) hr (AA (Za hr (AV An (AB 3) AH) (AB 2)) (AA AL AE))))) AY)))))))))
theorem LX:Fn P w K mg base "check_making" ["making"] 12 (Eu):=by
 obtain⟨f,fd,d⟩:=a.e41;exact A7 (k:=11) .drop d.F sc_check_making (PySem.W.mg_of a.X a.G d.a) (d.F.binds λ_ _ _ _ _ _=>lq1 λ_=>rfl) (λ_ _ _ _ _ _ hr=>have nd:=sc_check_making.nd;(AG (Ae (AS (Bm a) hr (AA (AS (DQ a) hr (AA (AB 0) (AA AH (AA AH AE)))) (AA AL AE)))) (AG (Ae (AS (Gs a) hr (AA (AV An (AB 0) AH) (AA (AV An (AB 0) AH) (AA (AV An (AB 0) AH) AE))))) (AG (Ae (AS (Lm a) hr (AA (AV An (AB 0) AH) AE))) (AG (Ae (AS (Ll a) hr (AA (AV An (AB 0) AH) AE))) (AG (Kk 1 (tgs:=["hand"]) (ix:=[]) (i:=0) (n:=1) nd ⟨rfl,by decide +kernel,by decide +kernel,trivial,rfl,by decide +kernel⟩ rfl (CV (AV An (AB 0) AH)) (λ_ _ _ _=>Az (i:=0) (show List.Nodup (["hand"]:List Str) from by decide +kernel) rfl (Or.inl rfl)) (λ_ _ _ _=>C0) (λ_ _ _ _=>(AV An (AB 0) AH)) (λ_ _ _ _ _ _ _ _ R i e q=>EA R i e q)) (AG (Ai 2 nd XH) (AG (Bz PassesOwn.never rfl (CV (AV An (AB 0) AH)) (CS 3 nd) (AG (Ae (AS (Bm a) hr (AA (Bo Hk (AV An (AB 3) AH) (AB 1)) (AA AL AE)))) (AK (W8 hr (AB 2) (AV An (AB 3) AH) (AV An (AB 3) AH))))) (AK (Bz PassesOwn.never rfl (Us a.y3 (AA (AV An (AB 0) AH) AE)) (Hh (is:=[4,5]) rfl (BJ (Az (i:=4) nd rfl (by first|exact Or.inl rfl|exact Or.inr rfl)) (BJ (Az (i:=5) nd rfl (by first|exact Or.inl rfl|exact Or.inr rfl)) EV))) (AK (Ae (AS (Np a) hr (AA (AB 5) (AA (Bo (Bw hr) (AB 4) AH) (AA (AB 2) AE))))))))))))))))
theorem FR:Fn P w K mg base "read_making" ["text"] 13 (Cn):=by
 obtain⟨f,fd,d⟩:=a.e42;obtain⟨fQ,ST⟩:=a.e45;exact A7 (k:=12) .drop d.F sc_read_making (PySem.W.mg_of a.X a.G d.a) (d.F.binds λ_ _ _ _ _ _=>lq1 λ_=>rfl) (λ_ _ _ _ _ _ hr=>have nd:=sc_read_making.nd;(AG (At (FK (DW (AX D5 a.y5 Mi.Ay (AA (AB 0) (AA (Cq a.y12 Mi.B6) AE))))) (AK IX) AY) (AG (Ai 1 nd (DA PySem.F.slot_str_split PySem.F.type_str_split RK (AB 0) (AA AL AE))) (AG (Ai 2 nd (U0 (IC a) hr)) (AG (Bz PassesOwn.never rfl (OM a.y3 (AA (AB 1) AE)) (Hh (is:=[3,4]) rfl (BJ (Az (i:=3) nd rfl (by first|exact Or.inl rfl|exact Or.inr rfl)) (BJ (Az (i:=4) nd rfl (by first|exact Or.inl rfl|exact Or.inr rfl)) EV))) (AG (Ai 5 nd (AS (QP a) hr (AA (AB 4) AE))) (AG (At (RW.rt (GE (AZ OQ (AB 5) Bv) (FJ (FK (DW (Qw (Gu a) hr (AB 2) (AA (AV An (AB 5) AH) AE))))))) (AK IX) AY) (AK (Ae (Qw (LZ a) hr (AB 2) (AA (AB 5) AE))))))) (AG (At (AZ Le (AX B5 a.y6 Mi.Au (AA (C9 ST.ca (ST.na "hands" (by decide +kernel)) (AB 2)) AE)) (C1 a.g4)) (AK IX) AY) (AG (Ai 6 nd (Uz (GJ a) hr (AB 2))) (AG (Ae (AS (LX a) hr (AA (AB 6) AE))) (AK (AW (AB 6)))))))))))
theorem Nr(n:Nat):Fn P w K mg base "_law_all_plain" ["_law_thing"] (n+1) (CJ n):=by
 obtain⟨f,fd,d⟩:=a.e43
 induction n with
 |zero=>exact Fc d.F (PySem.W.mg_of a.X a.G d.a) (d.F.binds λ_ _ _ _ _ _=>lq1 λ_=>rfl)
 |succ n ih=>exact(DF (k:=n+1) .all d.F sc_Lall_plain (PySem.W.mg_of a.X a.G d.a) (d.F.binds λ_ _ _ _ _ _=>lq1 λ_=>rfl) (λ_ _ _ _ _ _ hr=>have nd:=sc_Lall_plain.nd;(AG (At (DW (AX D5 a.y5 Mi.Ay (AA (AB 0) (AA (Cq a.y13 Mi.Br) AE)))) (AK (AW (AX (WQ rfl) a.y0 Mi.LR (AA (Fy (tgs:=["_law_one"]) (ix:=[]) (i:=0) (n:=1) ⟨rfl,by decide +kernel,by decide +kernel,trivial,rfl,by decide +kernel⟩ rfl (CV (AB 0)) (λ_ _ _ _=>Az (i:=0) (show List.Nodup (["_law_one"]:List Str) from by decide +kernel) rfl (Or.inl rfl)) (λ_ _ _ _=>C0) (λ_ _ _ _=>(AS (hkj:=AAE _) ih hr (AA (AB 0) AE)))) AE)))) AY) (AK (AW (Dv (AX YO a.y5 Mi.Ay (AA (AB 0) (AA (A4 (AA (Cq a.y12 Mi.B6) (AA (Cq a.y4 Mi.Fg) AE))) AE))) (El (Uy (AX D5 a.y5 Mi.Ay (AA (AB 0) (AA (Cq a.y2 Mi.MZ) AE))))))))))).mono (by omega)
end
theorem all_mk{l:PySem.W.OpenLaw}{w:World}{K:PySem.W.Frag}{h:Heap}{mg:Str->Option Value}{fa:Addr}(hφ:∀ns:List Int,ns.length<=63->∃μ',On [.scr ns] []=some (.bl true,μ'))(a:Al w K mg h)(hfa:mg "law" = some (.ref fa)):
  ∃fd:FuncData,(∀(s:Shared) (v:Value),BindsTo s fd ⟨[v],[]⟩ [("_law_script",v)])/\∀base:Heap,K.In base->base.Ns mainGlobals mg->FnOk l.prog w K mg base CX0 14 fa fd ["_law_script"] (Ql K):=by
 obtain⟨fa_law,fd_law,d⟩:=a.e44;have e:=hfa.symm.trans (PySem.W.mg_of a.X a.G d.a);cases e;refine⟨fd_law,λs v=>?_,λbase _ _=>?_⟩
 ·obtain⟨oc,od,kV,doc,pm,an,cdv,ct,osl,rfl,lk,hcd⟩:=d.F.ex;exact .of_eq rfl
 exact ZB (φ:=On) (V7 (k:=13) .drop d.F sc_law (λ_ _ _ _ _ _ hr=>have nd:=sc_law.nd;(AG (Ai 1 nd Bv) (AG (Bz PassesOwn.never rfl (CV (Ao Bg (CB (AA (AS (QQ a) hr (AA (AB 0) (AA AH AE))) AE)) (EM (AB 0) (Bn AH) (Bn AH)))) (CS 2 nd) (AG (Ai 3 nd (AS (Th a) hr (AA (AS (YW a) hr (AA (AB 2) AE)) AE))) (AG (Ai 4 nd (AS (YX a) hr (AA (AB 3) AE))) (AG (Bz PassesOwn.never rfl (G4 a.y9 (AA AH AE)) (CS 5 nd) (AG (Ai 6 nd (AS (Dp a) hr (AA (AB 3) AE))) (AG (At (RW.rt (GE (FK (DW (AX D5 a.y5 Mi.Ay (AA (AB 6) (AA (Cq a.y12 Mi.B6) AE))))) (FJ (AZ (JM hr) (AB 6) (AB 4))))) (AK (AW L6)) AY) (AG (Ai 7 nd (AS (FR a) hr (AA (AB 4) AE))) (AG (At (RW.rt (GE (FK (DW (AX D5 a.y5 Mi.Ay (AA (AB 7) (AA (Cq a.y13 Mi.Br) AE))))) (GE (AZ (JM hr) (AB 7) (AB 3)) (FJ (FK (DW (AS (Nr a 12) hr (AA (AB 7) AE)))))))) (AK (AW L6)) AY) (AK (At (RW.rt (He (AZ Xp (AB 1) Bv) (Fx (RW.rt (GE (AZ (JM hr) (AS (Dp a) hr (AA (AV An (AB 1) AH) AE)) (AV An (AB 1) AH)) (FJ (AZ (JM hr) (AS (FR a) hr (AA (AV An (AB 1) AH) AE)) (AV An (AB 1) AH)))))))) (AK (AW L6)) AY))))))) (AK (Ai 1 nd (A4 (AA (AB 3) (AA (AB 4) AE))))))))) (AG (Ai 8 nd (A4 (AA AL (AA AH (AA AH (AA (A4 AE) (AA (A4 (AA (A4 (AA AL (AA AH (AA (A4 AE) AE)))) (AA (A4 (AA AL (AA AH (AA (A4 AE) AE)))) AE))) AE))))))) (AK (AW (Dv (Bo (Bw hr) (AS (Dp a) hr (AA (AB 8) AE)) AL) (El (Bo (Bw hr) (AS (FR a) hr (AA (AS (Dp a) hr (AA (AB 8) AE)) AE)) (AB 8))))))))))) hφ
end K5
namespace L2
open PySem PySem.Spec PyProof.Rows Sem Ht
end L2
namespace Mi
open PySem L2 Ht
end Mi
namespace K3
open PySem L2 Mi K1 Xc
end K3
namespace Mi
open PySem L2
section
variable{τ τ1:Sl}{μ μ1 μ2 μ3 μ4:Mh}{d x y z:D}{ds:List D}{ma mb mc:Sl->M D}{tc tb:Sl->M Bool}{b:Bool}{m1 m2:Sl->M (Fl×Sl)}{g g':D->D->M D}{r:Fl×Sl}
theorem Dj(h:τ[i]?=some (some d)):AD i τ μ=some (d,μ):=by unfold AD;rw[h]
theorem Hv:mC d τ μ=some (d,μ):=rfl
theorem A9(h1:ma τ μ=some (x,μ1))(h2:mb τ μ1=some (y,μ2))(h3:g x y μ2=some (d,μ3)):mOp g ma mb τ μ=some (d,μ3):=by unfold mOp;rw[AO h1,AO h2,h3]
theorem Yw(h1:ma τ μ=some (x,μ1))(h3:u x μ1=some (d,μ3)):mUn u ma τ μ=some (d,μ3):=by unfold mUn;rw[AO h1,h3]
theorem YG:AJ τ μ=some ([],μ):=rfl
theorem Ad(h1:ma τ μ=some (x,μ1))(h2:as τ μ1=some (ds,μ2)):AC ma as τ μ=some (x::ds,μ2):=by unfold AC;rw[AO h1,AO h2];rfl
theorem Ah(h1:as τ μ=some (ds,μ1))(h2:f ds μ1=some (d,μ2)):AF f as τ μ=some (d,μ2):=by unfold AF;rw[AO h1,h2]
theorem Ik(h1:ma τ μ=some (x,μ1))(h0:Dz x μ1=some (u,μ2))(h2:as τ μ2=some (ds,μ3))(h3:f x ds μ3=some (d,μ4)):BB f ma as τ μ=some (d,μ4):=by unfold BB;rw[AO h1,AO h0,AO h2,h3]
theorem CK(h:ma τ μ=some (.bl b,μ1)):AR ma τ μ=some (b,μ1):=by unfold AR;rw[AO h];rfl
theorem bC(h:tc τ μ=some (b,μ1)):Fa tc τ μ=some (!b,μ1):=by unfold Fa;rw[AO h];rfl
theorem Im(h1:tc τ μ=some (true,μ1))(h2:tb τ μ1=some (b,μ2)):GH tc tb τ μ=some (b,μ2):=by unfold GH;rw[AO h1,if_pos rfl,h2]
theorem Nb(h1:tc τ μ=some (false,μ1)):GH tc tb τ μ=some (false,μ1):=by unfold GH;rw[AO h1];rfl
theorem bA(h1:tc τ μ=some (true,μ1)):mOr tc tb τ μ=some (true,μ1):=by unfold mOr;rw[AO h1];rfl
theorem bB(h1:tc τ μ=some (false,μ1))(h2:tb τ μ1=some (b,μ2)):mOr tc tb τ μ=some (b,μ2):=by unfold mOr;rw[AO h1,if_neg (by decide),h2]
theorem WA(h1:ma τ μ=some (.bl true,μ1))(h2:mb τ μ1=some (d,μ2)):Dt ma mb τ μ=some (d,μ2):=by
 unfold Dt;rw[AO h1,AO (show asB (.bl true) μ1=some (true,μ1) from rfl),if_pos rfl,h2]
theorem YC(h1:ma τ μ=some (.bl true,μ1)):Px ma mb τ μ=some (.bl true,μ1):=by
 unfold Px;rw[AO h1,AO (show asB (.bl true) μ1=some (true,μ1) from rfl)];rfl
theorem YD(h1:ma τ μ=some (.bl false,μ1))(h2:mb τ μ1=some (d,μ2)):Px ma mb τ μ=some (d,μ2):=by
 unfold Px;rw[AO h1,AO (show asB (.bl false) μ1=some (false,μ1) from rfl),if_neg (by decide),h2]
theorem YE(h:ma τ μ=some (.bl b,μ1)):MH ma τ μ=some (.bl (!b),μ1):=by
 unfold MH;rw[AO h,AO (show asB (.bl b) μ1=some (b,μ1) from rfl)];rfl
theorem YF(h:tc τ μ=some (true,μ1)):Fa tc τ μ=some (false,μ1):=bC h
theorem V8(h:ma τ μ=some (.bl false,μ1)):MH ma τ μ=some (.bl true,μ1):=YE h
theorem TN(h1:ma τ μ=some (x,μ1))(h2:mb τ μ1=some (y,μ2))(h3:g x y μ2=some (.bl true,μ3))(h4:mc τ μ3=some (z,μ4))(h5:g' y z μ4=some (d,μ4)):Er g g' ma mb mc τ μ=some (d,μ4):=by
 unfold Er;rw[AO h1,AO h2,AO h3,AO (show asB (.bl true) μ3=some (true,μ3) from rfl),if_pos rfl,AO h4,h5]
theorem TL:Bp τ μ=some (none,μ):=rfl
theorem Na(h:ma τ μ=some (.int i,μ1)):CQ ma τ μ=some (some i,μ1):=by unfold CQ;rw[AO h];rfl
theorem Oo{l h:Sl->M (Option Int)}{a b:Option Int}(h1:ma τ μ=some (x,μ1))(h2:l τ μ1=some (a,μ2))(h3:h τ μ2=some (b,μ3))(h4:Pi a b x μ3=some (d,μ4)):mSl ma l h τ μ=some (d,μ4):=by unfold mSl;rw[AO h1,AO h2,AO h3,h4]
theorem bD:A1 τ μ=some ((.next,τ),μ):=rfl
theorem Ak(h1:m1 τ μ=some ((.next,τ1),μ1))(h2:m2 τ1 μ1=some (r,μ2)):AQ m1 m2 τ μ=some (r,μ2):=by unfold AQ;rw[AO h1];exact h2
theorem Ij(h1:m1 τ μ=some ((.rt d,τ1),μ1)):AQ m1 m2 τ μ=some ((.rt d,τ1),μ1):=by unfold AQ;rw[AO h1];rfl
theorem G6(h1:ma τ μ=some (d,μ1)):Ag ma τ μ=some ((.next,τ),μ1):=by unfold Ag;rw[AO h1];rfl
theorem JX(h1:ma τ μ=some (d,μ1)):Ar ma τ μ=some ((.rt d,τ),μ1):=by unfold Ar;rw[AO h1];rfl
theorem Gm(h1:tc τ μ=some (true,μ1))(h2:m1 τ μ1=some (r,μ2)):sIf tc m1 m2 τ μ=some (r,μ2):=by unfold sIf;rw[AO h1,if_pos rfl,h2]
theorem Dk(h1:tc τ μ=some (false,μ1))(h2:m2 τ μ1=some (r,μ2)):sIf tc m1 m2 τ μ=some (r,μ2):=by unfold sIf;rw[AO h1,if_neg (by decide),h2]
theorem BX(h1:ma τ μ=some (d,μ1))(h2:bf d τ μ1=some (τ1,μ2)):As ma bf τ μ=some ((.next,τ1),μ2):=by unfold As;rw[AO h1,AO h2];rfl
theorem YH(h:τ.set i (some d)=τ1):AM i d τ μ=some (τ1,μ):=by rw[←h];rfl
theorem a9(h1:ma τ μ=some (x,μ1))(h2:mb τ μ1=some (y,μ2))(h3:Uf x y d μ2=some (u,μ3)):WU ma mb d τ μ=some (τ,μ3):=by unfold WU;rw[AO h1,AO h2,AO h3];rfl
theorem FN(h1:src τ μ=some (ds,μ1))(h2:Ba bf m1 ds τ μ1=some (r,μ2)):Du src bf m1 τ μ=some (r,μ2):=by unfold Du;rw[AO h1,h2]
theorem Sx(h:i<j):Ez (.int i) (.int j) μ=some (.bl true,μ):=by show some (D.bl (decide (i<j)),μ)=_;rw[AAO h]
theorem Vr(h:j<=i):Ez (.int i) (.int j) μ=some (.bl false,μ):=by show some (D.bl (decide (i<j)),μ)=_;rw[AAN (by omega)]
theorem eN(h:i<=j):Kt (.int i) (.int j) μ=some (.bl true,μ):=by show some (D.bl (decide (i<=j)),μ)=_;rw[AAO h]
theorem eP(h:j<i):M7 (.int i) (.int j) μ=some (.bl true,μ):=by show some (D.bl (decide (j<i)),μ)=_;rw[AAO h]
theorem c7(h:i<=j):M7 (.int i) (.int j) μ=some (.bl false,μ):=by show some (D.bl (decide (j<i)),μ)=_;rw[AAN (by omega)]
theorem cy(h:0<j):Jl (.int i) (.int j) μ=some (.int (i % j),μ):=by show (if 0<j then some (D.int (i % j),μ) else none)=_;rw[if_pos h]
theorem ac(h:0<j)(h2:j<1073741824):JL (.int i) (.int j) μ=some (.int (i / j),μ):=by show (if 0<j/\j<1073741824 then some (D.int (i / j),μ) else none)=_;rw[if_pos ⟨h,h2⟩]
theorem Ys(h:(-(2 ^ 64)<i/\i<2 ^ 64)∨(-(2 ^ 64)<j/\j<2 ^ 64)):FY (.int i) (.int j) μ=some (.int (i * j),μ):=by show (if (-(2 ^ 64)<i/\i<2 ^ 64)∨(-(2 ^ 64)<j/\j<2 ^ 64) then some (D.int (i * j),μ) else none)=_;rw[if_pos h]
theorem Oc:Bf (.int i) (.int j) μ=some (.int (i+j),μ):=rfl
theorem Yq:Em (.int i) (.int j) μ=some (.int (i-j),μ):=rfl
theorem S5:DC [.int i,.ty "int"] μ=some (.bl true,μ):=by
 show (FD "int" "int").map (λb=>(D.bl b,μ))=_;rw[show FD "int" "int" = some true from by decide];rfl
theorem S6:DC [.int i,.ty "bool"] μ=some (.bl false,μ):=by
 show (FD "int" "bool").map (λb=>(D.bl b,μ))=_;rw[show FD "int" "bool" = some false from by decide];rfl
theorem Sz{x:Str}:DC [.str x,.ty "str"] μ=some (.bl true,μ):=by
 show (FD "str" "str").map (λb=>(D.bl b,μ))=_;rw[show FD "str" "str" = some true from by decide];rfl
theorem Sy:DC [.tup ds,.ty "tuple"] μ=some (.bl true,μ):=by
 show (FD "tuple" "tuple").map (λb=>(D.bl b,μ))=_;rw[show FD "tuple" "tuple" = some true from by decide];rfl
theorem RQ(h:μ[n]?=some (.lst ds))(h2:atI ds i=some d):AU (.ref n) (.int i) μ=some (d,μ):=by
 show bnd (Bl (.ref n)) (λds=>ixD ds i) μ=_;rw[AO (show Bl (.ref n) μ=some (ds,μ) from by show (match μ[n]? with|some (.lst ds)=>some (ds,μ)|_=>none)=_;rw[h])];unfold ixD;rw[h2];rfl
theorem Ob(h2:atI ds i=some d):AU (.tup ds) (.int i) μ=some (d,μ):=by
 show bnd (Bl (.tup ds)) (λds=>ixD ds i) μ=_;rw[AO (show Bl (.tup ds) μ=some (ds,μ) from rfl)];unfold ixD;rw[h2];rfl
theorem Fb(h2:atI ds i=some d):AU (.lst ds) (.int i) μ=some (d,μ):=by
 show bnd (Bl (.lst ds)) (λds=>ixD ds i) μ=_;rw[AO (show Bl (.lst ds) μ=some (ds,μ) from rfl)];unfold ixD;rw[h2];rfl
theorem cu(h:μ[n]?=some (.lst ds))(h2:ixN ds.length k=some j):Uf (.ref n) (.int k) d μ=some ((),μ.set n (.lst (ds.set j d))):=by
 show (match μ[n]? with|some (.lst ds)=>(ixN ds.length k).map λj=>((),μ.set n (.lst (ds.set j d)))|_=>none)=_;rw[h];show (ixN ds.length k).map _=_;rw[h2];rfl
end
end Mi
local macro_rules | `(tactic| wtm_at "h")=>`(tactic| first|rfl|assumption)
local macro_rules | `(tactic| wtm_at "b")=>`(tactic| first
 |(with_reducible apply Mi.bD)|(with_reducible apply Mi.YG)|(with_reducible apply Mi.Hv)|(with_reducible apply Mi.TL)|(with_reducible apply Mi.ev_retN)
 |((with_reducible apply Mi.Dj);first|rfl|assumption)
 |((with_reducible apply Mi.Ij);wtm_at "b")
 |((with_reducible apply Mi.Ak);(wtm_at "b");(wtm_at "b"))
 |((with_reducible apply Mi.BX);(wtm_at "b");(wtm_at "b"))
 |((with_reducible apply Mi.YH);rfl)
 |((with_reducible apply Mi.a9);(wtm_at "b");(wtm_at "b");(wtm_at "b"))
 |((with_reducible apply Mi.G6);wtm_at "b")
 |((with_reducible apply Mi.JX);wtm_at "b")
 |((with_reducible apply Mi.Gm);(wtm_at "b");(wtm_at "b"))
 |((with_reducible apply Mi.Dk);(wtm_at "b");(wtm_at "b"))
 |((with_reducible apply Mi.A9);(wtm_at "b");(wtm_at "b");(wtm_at "b"))
 |((with_reducible apply Mi.Yw);(wtm_at "b");(wtm_at "b"))
 |((with_reducible apply Mi.Ah);(wtm_at "b");(wtm_at "b"))
 |((with_reducible apply Mi.Ad);(wtm_at "b");(wtm_at "b"))
 |((with_reducible apply Mi.Ik);(wtm_at "b");(wtm_at "b");(wtm_at "b");(wtm_at "b"))
 |((with_reducible apply Mi.CK);wtm_at "b")
 |((with_reducible apply Mi.ev_notT);wtm_at "b")
 |((with_reducible apply Mi.YF);wtm_at "b")
 |((with_reducible apply Mi.Im);(wtm_at "b");(wtm_at "b"))
 |((with_reducible apply Mi.Nb);wtm_at "b")
 |((with_reducible apply Mi.bB);(wtm_at "b");(wtm_at "b"))
 |((with_reducible apply Mi.bA);wtm_at "b")
 |((with_reducible apply Mi.WA);(wtm_at "b");(wtm_at "b"))
 |((with_reducible apply Mi.ev_andVF);wtm_at "b")
 |((with_reducible apply Mi.YD);(wtm_at "b");(wtm_at "b"))
 |((with_reducible apply Mi.YC);wtm_at "b")
 |((with_reducible apply Mi.V8);wtm_at "b")
 |((with_reducible apply Mi.ev_notVF);wtm_at "b")
 |((with_reducible apply Mi.TN);(wtm_at "b");(wtm_at "b");(wtm_at "b");(wtm_at "b");(wtm_at "b"))
 |((with_reducible apply Mi.ev_chainF);(wtm_at "b");(wtm_at "b");(wtm_at "b"))
 |((with_reducible apply Mi.Na);wtm_at "b")
 |((with_reducible apply Mi.Oo);(wtm_at "b");(wtm_at "b");(wtm_at "b");(wtm_at "b"))
 |wtm_at "h")
local macro_rules | `(tactic| wtm_at "e")=>`(tactic| first|assumption|decide|omega)
local macro_rules | `(tactic| wtm_at "h")=>`(tactic| first
 |((with_reducible apply Mi.eN);wtm_at "e")|((with_reducible apply Mi.l_leF);wtm_at "e")|((with_reducible apply Mi.Sx);wtm_at "e")|((with_reducible apply Mi.Vr);wtm_at "e")|((with_reducible apply Mi.eP);wtm_at "e")|((with_reducible apply Mi.c7);wtm_at "e")
 |(with_reducible apply Mi.S5)|(with_reducible apply Mi.S6)|(with_reducible apply Mi.Sz)|(with_reducible apply Mi.Sy)|(with_reducible apply Mi.Oc)|(with_reducible apply Mi.Yq)|((with_reducible apply Mi.cy);wtm_at "e")|((with_reducible apply Mi.ac);(wtm_at "e");(wtm_at "e"))|((with_reducible apply Mi.Ys);first|(left;omega)|(right;omega))
 |((with_reducible apply Mi.Ob);rfl)|((with_reducible apply Mi.Fb);rfl)|((with_reducible apply Mi.RQ);(first|assumption|rfl);(rfl))|((with_reducible apply Mi.cu);(first|assumption|rfl);(rfl)))
namespace K1
open PySem L2 Mi
section
variable{μ:Mh}{x y:Str}
theorem RX:A3 (.int i) (.int j) μ=some (.bl (i==j),μ):=rfl
theorem Vw(h:i=j):A3 (.int i) (.int j) μ=some (.bl true,μ):=by rw[RX,h,beq_self_eq_true]
theorem Vx(h:i≠j):A3 (.int i) (.int j) μ=some (.bl false,μ):=by rw[RX,AAd.mpr h]
theorem cx:Cj (.int i) (.int j) μ=some (.bl (!(i==j)),μ):=rfl
theorem aV(h:i=j):Cj (.int i) (.int j) μ=some (.bl false,μ):=by rw[cx,h,beq_self_eq_true];rfl
theorem Fw(h:PyData.strOk x=true):SeqAt.shaped (.str x)=true:=by
 show (PyData.strOk x&&decide ((PyData.str x).depth<=64))=true;rw[h];rfl
theorem Vv(h1:PyData.strOk x=true)(h2:PyData.strOk y=true):A3 (.str x) (.str y) μ=some (.bl (x==y),μ):=by
 show (if SeqAt.shaped (.str x)=true/\SeqAt.shaped (.str y)=true then some (D.bl (x==y),μ) else none)=_;rw[if_pos ⟨Fw h1,Fw h2⟩]
theorem cw(h1:PyData.strOk x=true)(h2:PyData.strOk y=true):Cj (.str x) (.str y) μ=some (.bl (!(x==y)),μ):=by
 show (if SeqAt.shaped (.str x)=true/\SeqAt.shaped (.str y)=true then some (D.bl (!(x==y)),μ) else none)=_;rw[if_pos ⟨Fw h1,Fw h2⟩]
theorem ae(h1:PyData.strOk x=true)(h2:PyData.strOk y=true)(h:x=y):A3 (.str x) (.str y) μ=some (.bl true,μ):=by rw[Vv h1 h2,h,beq_self_eq_true]
theorem af(h1:PyData.strOk x=true)(h2:PyData.strOk y=true)(h:x≠y):A3 (.str x) (.str y) μ=some (.bl false,μ):=by rw[Vv h1 h2,AAd.mpr h]
theorem aU(h1:PyData.strOk x=true)(h2:PyData.strOk y=true)(h:x≠y):Cj (.str x) (.str y) μ=some (.bl true,μ):=by rw[cw h1 h2,AAd.mpr h];rfl
theorem MS:∀xs:List Str,JU (xs.map D.str)=some (xs.map V.str)
 |[]=>rfl
 |x::r=>by show (MU (.str x)).bind _=_;rw[MS r];rfl
theorem Oi:∀xs:List Str,inV (.str x) (xs.map V.str)=decide (x∈xs)
 |[]=>rfl
 |y::r=>by
  have h:=Oi r;unfold inV at h ⊢;rw[AAW,List.any_cons,h];show ((y==x)||decide (x∈r))=_;by_cases e:x=y
  ·subst e;simp
  ·have:(y==x)=false:=AAd.mpr λz=>e z.symm;rw[this,Bool.false_or];simp[e]
theorem G5{neg:Bool}{ds:List D}{xs:List Str}(h:Bl c μ=some (xs.map D.str,μ)):HS neg (.str x) c μ=some (.bl (if neg then !decide (x∈xs) else decide (x∈xs)),μ):=by
 unfold HS;rw[AO h];simp only[MS];show (match MU (.str x),some (xs.map V.str) with|some x,some xs=>some (D.bl (if neg then !inV x xs else inV x xs),μ)|_,_=>none)=_;show some (D.bl (if neg then !inV (.str x) (xs.map V.str) else inV (.str x) (xs.map V.str)),μ)=_;rw[Oi]
theorem Vt{xs:List Str}(h:x∈xs):Co false (.str x) (sl xs) μ=some (.bl true,μ):=by
 show HS false (.str x) (.tup (xs.map D.str)) μ=_;rw[G5 (ds:=[]) rfl,AAO h];rfl
theorem Vu{xs:List Str}(h:x∉xs):Co false (.str x) (sl xs) μ=some (.bl false,μ):=by
 show HS false (.str x) (.tup (xs.map D.str)) μ=_;rw[G5 (ds:=[]) rfl,AAN h];rfl
theorem aT{xs:List Str}(h:x∉xs):Co true (.str x) (sl xs) μ=some (.bl true,μ):=by
 show HS true (.str x) (.tup (xs.map D.str)) μ=_;rw[G5 (ds:=[]) rfl,AAN h];rfl
theorem aW:Bq [.tup ds] μ=some (.int ds.length,μ):=rfl
theorem Vs:Bq [.lst ds] μ=some (.int ds.length,μ):=rfl
end
end K1
local macro_rules | `(tactic| wtm_at "d")=>`(tactic| first|assumption|decide +kernel)
local macro_rules | `(tactic| wtm_at "h")=>`(tactic| first
 |(with_reducible apply K1.aW)|(with_reducible apply K1.Vs)
 |((with_reducible apply K1.Vw);wtm_at "e")|((with_reducible apply K1.Vx);wtm_at "e")|((with_reducible apply K1.l_neIT);wtm_at "e")|((with_reducible apply K1.aV);wtm_at "e")
 |((with_reducible apply K1.ae);(wtm_at "d");(wtm_at "d");(first|rfl|wtm_at "d"))|((with_reducible apply K1.af);(wtm_at "d");(wtm_at "d");(wtm_at "d"))|((with_reducible apply K1.aU);(wtm_at "d");(wtm_at "d");(wtm_at "d"))|((with_reducible apply K1.l_neSF);(wtm_at "d");(wtm_at "d");(first|rfl|wtm_at "d"))
 |((with_reducible apply K1.Vt);wtm_at "d")|((with_reducible apply K1.Vu);wtm_at "d")|((with_reducible apply K1.aT);wtm_at "d"))
namespace K1
open PySem L2 Mi
section
variable{μ:Mh}{b:Int}
theorem Y7:B4 [.bl true,.str w] μ=some (.non,μ):=
 BA (g:=[]) (τ2:=_) (by rw[AAY];rfl) rfl
theorem PP(h1:a<=i)(h2:i<=b):DP [.int i,.int a,.int b] μ=some (.bl true,μ):=
 BL (g:=[]) (τ2:=_) (by
  rw[AAY];unfold K6;wtm_at "b") rfl (by unfold Cl;trivial)
theorem HZ(h1:a<=ds.length)(h2:(ds.length:Int)<=b):CN [.tup ds,.int a,.int b] μ=some (.bl true,μ):=
 BL (g:=[]) (τ2:=_) (by
  rw[AAY];unfold K7;wtm_at "b") rfl (by unfold Cl;trivial)
end
end K1
local macro_rules | `(tactic| wtm_at "h")=>`(tactic| first
 |(with_reducible apply K1.Y7)|((with_reducible apply K1.PP);(wtm_at "e");(wtm_at "e"))|((with_reducible apply K1.HZ);(first|wtm_at "e" |simp);(first|wtm_at "e" |simp)))
namespace K1
open PySem L2 Mi
section
variable{μ:Mh}{b:Int}
theorem GO(hk:k∈(["safe", "steady", "whole"]:List Str))(h1:2<=s)(h2:s<=10)(h3:0<=g)(h4:g<=s-1):CZ [.str k,.int s,.int g] μ=some (.non,μ):=
 BA (g:=[]) (τ2:=_) (by
  rw[AAY];unfold Gg KB F7 Go;wtm_at "b") rfl
end
def WellAt(μ:Mh)(n:Nat):Prop:=∃a m c:Int,μ[n]?=some (.lst [.int a,.int m,.int c])/\0<=a
def Upd(n:Nat)(μ μ':Mh):Prop:=∃a m c:Int,0<=a/\μ'=μ.set n (.lst [.int a,.int m,.int c])
section
variable{μ μ1 μ2:Mh}{n:Nat}{d:D}{τ2:Sl}
theorem WellAt.lt(h:WellAt μ n):n<μ.length:=by
 obtain⟨_,_,_,h,_⟩:=h;exact(AAT.mp h).1
theorem WellAt.refl(h:WellAt μ n):Upd n μ μ:=by
 have hl:=h.lt;obtain⟨a,m,c,h,ha⟩:=h;refine⟨a,m,c,ha,?_⟩;apply List.ext_getElem?;intro j;rw[List.getElem?_set];split
 ·rename_i e;subst e;exact h
 ·rfl
theorem Upd.trans(h:Upd n μ μ1)(h2:Upd n μ1 μ2):Upd n μ μ2:=by
 obtain⟨a,m,c,ha,rfl⟩:=h;obtain⟨a2,m2,c2,ha2,rfl⟩:=h2;exact⟨a2,m2,c2,ha2,by rw[List.set_set]⟩
theorem Upd.len(h:Upd n μ μ1):μ1.length=μ.length:=by
 obtain⟨a,m,c,ha,rfl⟩:=h;simp
theorem Upd.well(h:Upd n μ μ1)(hn:n<μ.length):WellAt μ1 n:=by
 obtain⟨a,m,c,ha,rfl⟩:=h;exact⟨a,m,c,by rw[List.getElem?_set_self hn],ha⟩
theorem Upd.other(h:Upd n μ μ1)(hj:j≠n):μ1[j]?=μ[j]?:=by
 obtain⟨a,m,c,ha,rfl⟩:=h;rw[AAm (λe=>hj e.symm)]
theorem Upd.app(h:Upd n (μ++g) μ1)(hn:n<μ.length):∃μ2,Upd n μ μ2/\μ1=μ2++g:=by
 obtain⟨a,m,c,ha,rfl⟩:=h;exact⟨_,⟨a,m,c,ha,rfl⟩,by rw[List.set_append_left _ _ hn]⟩
theorem WK:ClL k [D.int a,.int m,.int c]:=by simp[ClL,Cl]
theorem Upd.tells(h:Upd n μ μ1)(c:Cl μ.length d):Gr μ (μ1++g) μ1 d d:=by
 refine⟨⟨g,rfl⟩,by rw[h.len];exact AAE _,λj o e=>?_,.inl ⟨rfl,by rw[h.len];exact c⟩⟩;by_cases hj:j=n
 ·subst hj;obtain⟨a,m,c,ha,rfl⟩:=h;right;rw[List.getElem?_set] at e;simp at e;obtain⟨_,rfl⟩:=e;exact WK
 ·left;rw[←h.other hj];exact e
theorem G9(e:mb (BQ N ds) μ=some ((.rt d,τ2),μ1++g))(hl:ds.length=ps)(u:Upd n μ μ1)(c:Cl μ.length d):BF .drop N ps mb ds μ=some (d,μ1):=by
 have t:Jw μ (μ1++g) .drop=μ1:=by show (μ1++g).take μ.length=μ1;rw[←u.len,List.take_left]
 have h:=Ff (hw:=.drop) e hl (.inr ⟨d,rfl⟩) (by rw[t];exact u.tells c);rw[t] at h;exact h
theorem X1(hn:n<μ.length)(h2:atI ds i=some d):AU (.ref n) (.int i) (μ.set n (.lst ds))=some (d,μ.set n (.lst ds)):=RQ (List.getElem?_set_self hn) h2
end
end K1
local macro_rules | `(tactic| wtm_at "h")=>`(tactic| first
 |((with_reducible apply K1.X1);(assumption);(rfl))|((with_reducible apply K1.l_setSet);(assumption);(rfl)))
namespace K1
open PySem L2 Mi
section
variable{μ μ':Mh}{n:Nat}{b:Int}{τ2:Sl}
theorem Cz(w:WellAt μ n)(hb:0<b)(hb2:b<1073741824):∃r μ',BM [.ref n,.int b] μ=some (.int r,μ')/\0<=r/\r<b/\Upd n μ μ':=by
 have hn:=w.lt;obtain⟨a,m,c,h,ha⟩:=w;have hne:b≠0:=by omega
 by_cases h0:0<a
 ·have e:∃τ2,Ib (BQ 4 [.ref n,.int b]) μ=some ((.rt (.int (a % b)),τ2),μ.set n (.lst [.int (a / b),.int m,.int c])):=by
   refine' ⟨_,Eq.trans ?e ?f⟩
   case e=>unfold Ib;wtm_at "b"
   case f=>rfl
  obtain⟨τ2,e⟩:=e;have u:Upd n μ (μ.set n (.lst [.int (a / b),.int m,.int c])):=⟨_,_,_,Int.ediv_nonneg ha (by omega),rfl⟩;exact⟨_,_,G9 (g:=[]) (by rw[AAY];exact e) rfl u (by unfold Cl;trivial),Int.emod_nonneg _ hne,Int.emod_lt_of_pos _ hb,u⟩
 ·have e:∃q τ2,Ib (BQ 4 [.ref n,.int b]) μ=some ((.rt (.int (q % b)),τ2),μ.set n (.lst [.int a,.int m,.int (c+1)])):=by
   refine' ⟨_,_,Eq.trans ?e ?f⟩
   case e=>unfold Ib;wtm_at "b"
   case f=>rfl
  obtain⟨q,τ2,e⟩:=e;have u:Upd n μ (μ.set n (.lst [.int a,.int m,.int (c+1)])):=⟨_,_,_,ha,rfl⟩;exact⟨_,_,G9 (g:=[]) (by rw[AAY];exact e) rfl u (by unfold Cl;trivial),Int.emod_nonneg _ hne,Int.emod_lt_of_pos _ hb,u⟩
end
section
variable{μ μ1 μ2 μ':Mh}{b:Int}{d:D}{x y:Str}{τ τ2:Sl}
theorem Il(h1:src τ μ=some (ds,μ1))(hl:ds.length<=sizeLine)(h2:Cb bf mc me (BR N ix τ) ds [] μ1=some (es,μ2))(h3:fin es μ2=some (d,μ')):Bi N ix src bf mc me fin τ μ=some (d,μ'):=by
 unfold Bi;rw[AO h1,AO (show lim ds.length μ1=some ((),μ1) from by unfold lim;rw[if_pos hl]),AO h2,h3]
theorem Oq:∀{xs ys:List D},(∀z∈xs,me (τ0.set 0 (some z)) μ=some (F z,μ))->Cb (AM 0) Bu me τ0 xs ys μ=some (ys++xs.map F,μ)
 |[],ys,_=>by show some (ys,μ)=_;simp
 |z::xs,ys,h=>by
  show bnd (AM 0 z τ0) _ μ=_;rw[AO (show AM 0 z τ0 μ=some (τ0.set 0 (some z),μ) from rfl),AO (show Bu (τ0.set 0 (some z)) μ=some (true,μ) from rfl),if_pos rfl,AO (h z (by simp))];rw[Oq λw hw=>h w (by simp[hw])];simp
theorem Cr(h:ds.length<=sizeLine):BE ds μ=some (.lst ds,μ):=by
 unfold BE;rw[AO (show lim ds.length μ=some ((),μ) from by unfold lim;rw[if_pos h])];rfl
def B9(x:Str):Prop:=∀c∈x.cps.toList,97<=c/\c<123
structure GoodName(x:Str):Prop where
 lo:1<=x.length
 hi:x.length<=8
 ab:B9 x
theorem Su:∀c,c<123->97<=c->(!(Builtin.Str.occurrences "abcdefghijklmnopqrstuvwxyz" ⟨#[c]⟩ 0 (Str.length "abcdefghijklmnopqrstuvwxyz") 1).isEmpty)=true:=by decide +kernel
theorem GoodName.ok(h:GoodName x):PyData.strOk x=true:=by
 unfold PyData.strOk;rw[Array.all_eq_true_iff_forall_mem];intro c hc;have:=h.ab c (by simpa using hc);simp;omega
theorem O2:∀k:Nat,Hz (List.replicate k (D.bl true))=some (List.replicate k true)
 |0=>rfl
 |k+1=>by
  rw[AAj,AAj];show (Hz (List.replicate k (D.bl true))).map (true::·)=_;rw[O2 k];rfl
theorem JF(h:GoodName x):CY [.str x] μ=some (.bl true,μ):=
 BL (g:=[]) (τ2:=_) (by
  rw[AAY];have hs:x.length<=sizeLine:=AAq h.hi (by decide);have h1:(1:Int)<=x.length:=by have:=h.lo;omega
  have h8:(x.length:Int)<=8:=by have:=h.hi;omega
  have l:Bq [.str x] μ=some (.int x.length,μ):=by show (if x.length<=sizeLine then some (D.int x.length,μ) else none)=_;rw[if_pos hs]
  have hl:(x.cps.toList.map λc=>D.str ⟨#[c]⟩).length=x.length:=by simp[Str.length]
  have c:Bi 1 [] (OX (AD 0)) (AM 0) Bu (mOp (Co false) (AD 0) (mC G8)) BE (BQ 1 [.str x]) μ=some (.lst (List.replicate x.length (.bl true)),μ):=by
   refine Il (ds:=x.cps.toList.map λc=>D.str ⟨#[c]⟩) rfl (by rw[hl];exact hs) (Oq (F:=λ_=>.bl true) λz hz=>?_) ?_
   ·rw[AAL] at hz;obtain⟨c,hc,rfl⟩:=hz;have:=h.ab c hc;refine A9 (x:=.str ⟨#[c]⟩) (y:=G8) (Dj rfl) Hv ?_;show some (D.bl (!(Builtin.Str.occurrences "abcdefghijklmnopqrstuvwxyz" ⟨#[c]⟩ 0 (Str.length "abcdefghijklmnopqrstuvwxyz") 1).isEmpty),μ)=_;rw[Su c this.2 this.1]
   ·rw[List.nil_append,List.map_const',hl];exact Cr (by rw[AAl];exact hs)
  have a:O7 [.lst (List.replicate x.length (.bl true))] μ=some (.bl true,μ):=by
   show (Hz (List.replicate x.length (D.bl true))).map (λbs=>(D.bl (bs.all id),μ))=_;rw[O2];show some (D.bl ((List.replicate x.length true).all id),μ)=_;simp
  unfold MG;wtm_at "b") rfl (by unfold Cl;trivial)
end
end K1
local macro_rules | `(tactic| wtm_at "e")=>`(tactic| first|assumption|(simp only[AAH,List.length_nil];first|decide|omega))
local macro_rules | `(tactic| wtm_at "h")=>`(tactic| ((with_reducible apply K1.JF);assumption))
namespace K1
open PySem L2 Mi
inductive Ex where
 |num (i:Int)|var (x:Str)|neg (e:Ex)|pair (w:Str) (a b:Ex)
def Ex.toD:Ex->D
 | .num i=>.tup [.str "num",.int i]
 | .var x=>.tup [.str "var",.str x]
 | .neg e=>.tup [.str "not",e.toD]
 | .pair w a b=>.tup [.str w,a.toD,b.toD]
def BD:List Str:=["+", "-", "=", "<", "and", "or"]
noncomputable def Ex.Ok:Nat->Ex->Prop
 |0,_=>False
 |_+1,.num i=>0<=i/\i<=9
 |_+1,.var x=>GoodName x
 |k+1,.neg e=>e.Ok k
 |k+1,.pair w a b=>w∈BD/\a.Ok k/\b.Ok k
def Ex.vars:Ex->List Str
 | .num _=>[]
 | .var x=>[x]
 | .neg e=>e.vars
 | .pair _ a b=>a.vars++b.vars
theorem Ex.Ok.succ:∀{k:Nat} {e:Ex},e.Ok k->e.Ok (k+1)
 |_+1,.num _,h=>h
 |_+1,.var _,h=>h
 |k+1,.neg e,h=>Ex.Ok.succ (k:=k) (e:=e) h
 |k+1,.pair _ a b,h=>⟨h.1,Ex.Ok.succ (k:=k) (e:=a) h.2.1,Ex.Ok.succ (k:=k) (e:=b) h.2.2⟩
theorem Ex.Ok.mono{k j:Nat}{e:Ex}(h:e.Ok k)(hj:k<=j):e.Ok j:=by
 induction hj with
 |refl=>exact h
 |step _ ih=>exact ih.succ
section
variable{μ:Mh}{n:Nat}{b:Int}{x:Str}{τ2:Sl}
theorem DH:∀(k n:Nat) (e:Ex) (j:Int) (μ:Mh),j=k->k<=n->e.Ok k->DI n [e.toD,.int j] μ=some (.bl true,μ)
 |0,_,_,_,_,_,_,h=>by cases h
 |_+1,0,_,_,_,_,hn,_=>by omega
 |k+1,n+1,.num i,j,μ,hj,hn,h=>by
  have hj1:1<=j:=by omega
  obtain⟨h1,h2⟩:0<=i/\i<=9:=h;exact BL (g:=[]) (τ2:=_) (by rw[AAY];unfold Ck CL D3 Ex.toD;wtm_at "b") rfl (by unfold Cl;trivial)
 |k+1,n+1,.var x,j,μ,hj,hn,h=>by
  have hj1:1<=j:=by omega
  have h:GoodName x:=h;exact BL (g:=[]) (τ2:=_) (by rw[AAY];unfold Ck CL D3 Ex.toD;wtm_at "b") rfl (by unfold Cl;trivial)
 |k+1,n+1,.neg e,j,μ,hj,hn,h=>by
  have hj1:1<=j:=by omega
  have ih:=DH k n e (j-1) μ (by omega) (by omega) h;exact BL (g:=[]) (τ2:=_) (by rw[AAY];unfold Ck CL D3 Ex.toD;wtm_at "b") rfl (by unfold Cl;trivial)
 |k+1,n+1,.pair w a b,j,μ,hj,hn,h=>by
  have hj1:1<=j:=by omega
  obtain⟨hw,ha,hb⟩:=h;have hw:w∈(["+", "-", "=", "<", "and", "or"]:List Str):=hw;have ia:=DH k n a (j-1) μ (by omega) (by omega) ha;have ib:=DH k n b (j-1) μ (by omega) (by omega) hb;exact BL (g:=[]) (τ2:=_) (by rw[AAY];unfold Ck CL D3 Ex.toD;wtm_at "b") rfl (by unfold Cl;trivial)
end
section
variable{μ μ1 μ2 μ3:Mh}{d x y:D}{τ τ1 τ2:Sl}{ma:Sl->M D}{ds es:List D}{r:Fl×Sl}{m1:Sl->M (Fl×Sl)}{bf:D->Sl->M Sl}
theorem NZ(h1:ma τ μ=some (x,μ1))(h2:HW x μ1=some (ds,μ2)):Dw ma τ μ=some (ds,μ2):=by unfold Dw;rw[AO h1,h2]
theorem Vq:HW (.tup ds) μ=some (ds,μ):=rfl
theorem TM:Ba bf m1 [] τ μ=some ((.next,τ),μ):=rfl
theorem CO(h1:bf x τ μ=some (τ1,μ1))(h2:m1 τ1 μ1=some ((.next,τ2),μ2))(h3:Ba bf m1 ds τ2 μ2=some (r,μ3)):Ba bf m1 (x::ds) τ μ=some (r,μ3):=by
 show bnd (bf x τ) _ μ=_;rw[AO h1,AO h2];exact h3
theorem az(h1:m τ μ=some (ds,μ1))(h2:Gv ds μ1=some (es,μ2)):Vf m τ μ=some (es,μ2):=by unfold Vf;rw[AO h1,h2]
theorem aQ:Gv [.tup [],.tup []] μ=some ([],μ):=rfl
theorem aP:Gv [.tup [x],.tup [y]] μ=some ([.tup [x,y]],μ):=rfl
theorem aO:Gv [.tup [x,x'],.tup [y,y']] μ=some ([.tup [x,y],.tup [x',y']],μ):=rfl
theorem X3:DT [i,j] (.tup [x,y]) τ μ=some ((τ.set i (some x)).set j (some y),μ):=rfl
theorem aS:Pi (some 1) none (.tup (x::ds)) μ=some (.tup ds,μ):=by
 have h1:HT.sIx (x::ds).length 0 (some 1)=1:=by rw[show (some (1:Int))=some ((1:Nat):Int) from rfl,HT.M4];simp
 have h2:HT.sIx (x::ds).length (x::ds).length none=(x::ds).length:=rfl;show (if HT.sIx (x::ds).length 0 (some 1)=0/\HT.sIx (x::ds).length (x::ds).length none=(x::ds).length then (Mi.BO:M D) else Mi.ret (D.tup (FO (x::ds) (some 1) none))) μ=_;rw[if_neg (by rw[h1];simp)];show some (D.tup (FO (x::ds) (some 1) none),μ)=_;unfold FO;rw[h1,h2];simp
theorem J6(h:ds.length<=sizeLine):Dq ds μ=some (.ref μ.length,μ++[.lst ds]):=by
 unfold Dq;rw[AO (show lim ds.length μ=some ((),μ) from by unfold lim;rw[if_pos h])]
theorem F0(h:ds.length<=sizeLine):BU ds μ=some (.tup ds,μ):=by
 unfold BU;rw[AO (show lim ds.length μ=some ((),μ) from by unfold lim;rw[if_pos h])];rfl
theorem RV:Dz (.ref μ.length) (μ++[.lst ds])=some ((),μ++[.lst ds]):=by
 unfold Dz;rw[AO (show Bs (.ref μ.length) (μ++[.lst ds])=some (ds,μ++[.lst ds]) from by
  unfold Bs;dsimp only;rw[List.getElem?_concat_length])];rfl
theorem N2(h:k ds=some (d,es)):FI μ.length k (μ++[.lst ds])=some (d,μ++[.lst es]):=by
 unfold FI;rw[List.getElem?_concat_length];show (k ds).map _=_;rw[h];show some (d,(μ++[MO.lst ds]).set μ.length (.lst es))=_;simp
theorem c8(h:ds.length+es.length<=sizeLine):Lg (.ref μ.length) [.lst es] (μ++[.lst ds])=some (.non,μ++[.lst (ds++es)]):=N2 (by rw[if_pos h])
theorem dA(h:ds.length<sizeLine):FQ (.ref μ.length) [d] (μ++[.lst ds])=some (.non,μ++[.lst (ds++[d])]):=N2 (by rw[if_pos h])
theorem YI(h:τ[i]?=some (some (.str v)))(h1:(Str.empty++u).length<=sizeLine)(h2:v.length<=sizeLine)(h3:(Str.empty++u++v).length<=sizeLine):RN [mC (.str u),Xy (AD i)] τ μ=some (.str (Str.empty++u++v),μ):=by
 have lm:∀k:Nat,k<=sizeLine->lim k μ=some ((),μ):=λk hk=>by unfold lim;rw[if_pos hk]
 unfold RN JR;rw[AO Hv];dsimp only;rw[AO (lm _ h1)];unfold JR;rw[AO (show Xy (AD i) τ μ=some (.str v,μ) from Yw (Dj h) (by show (if v.length<=sizeLine then some (D.str v,μ) else none)=_;rw[if_pos h2]))];dsimp only;rw[AO (lm _ h3)];unfold JR;rw[AO (lm _ h3)];rfl
theorem cT:Bc "put" = some (.tup [.str "box",.str "expression"]):=by kernel_rfl
theorem cV:Bc "get" = some (.tup [.str "variable",.str "box"]):=by kernel_rfl
theorem cU:Bc "let" = some (.tup [.str "variable",.str "expression"]):=by kernel_rfl
theorem VW:Bc "unless" = some (.tup [.str "expression",.str "target"]):=by kernel_rfl
theorem Z3:Bc "jump" = some (.tup [.str "target"]):=by kernel_rfl
theorem Z2:Bc "tell" = some (.tup [.str "expression"]):=by kernel_rfl
theorem Z4:Bc "done" = some (.tup []):=by kernel_rfl
theorem aX(h:Bc w=some d):Re Bc (.str w) μ=some (d,μ):=by show (Bc w).map _=_;rw[h];rfl
theorem cz(h:Bc w=some d):X4 Bc (.str w) μ=some (.bl true,μ):=by show some (D.bl (Bc w).isSome,μ)=_;rw[h];rfl
end
end K1
local macro_rules | `(tactic| wtm_at "l")=>`(tactic| first|assumption|decide|(simp only[AAH,List.length_nil,AAG,AAF];first|decide|omega))
local macro_rules | `(tactic| wtm_at "r")=>`(tactic| first|exact K1.cT|exact K1.cV|exact K1.cU|exact K1.VW|exact K1.Z3|exact K1.Z2|exact K1.Z4)
local macro_rules | `(tactic| wtm_at "h")=>`(tactic| first
 |((with_reducible apply K1.NZ);(wtm_at "b");(wtm_at "b"))|(with_reducible apply K1.Vq)|(with_reducible apply K1.l_seqL)|((with_reducible apply Mi.FN);(wtm_at "b");(wtm_at "b"))|(with_reducible apply K1.TM)|((with_reducible apply K1.CO);(wtm_at "b");(wtm_at "b");(wtm_at "b"))
 |((with_reducible apply K1.az);(wtm_at "b");(wtm_at "b"))|(with_reducible apply K1.aQ)|(with_reducible apply K1.aP)|(with_reducible apply K1.aO)|(with_reducible apply K1.X3)|(with_reducible apply K1.aS)
 |((with_reducible apply K1.Cr);wtm_at "l")|((with_reducible apply K1.J6);wtm_at "l")|((with_reducible apply K1.F0);wtm_at "l")|(with_reducible apply K1.RV)|((with_reducible apply K1.c8);wtm_at "l")|((with_reducible apply K1.dA);wtm_at "l")
 |((with_reducible apply K1.aX);wtm_at "r")|((with_reducible apply K1.cz);wtm_at "r")|((with_reducible apply K1.YI);(rfl);(decide +kernel);(decide +kernel);(decide +kernel)))
namespace K1
open PySem L2 Mi
section
variable{μ:Mh}{n:Nat}{b:Int}{x:Str}{τ2:Sl}
theorem Ex.vlen:∀{k:Nat} {e:Ex},e.Ok k->e.vars.length<=2 ^ k
 |k+1,.num _,_=>by simp[Ex.vars]
 |k+1,.var _,_=>by show 1<=2 ^ (k+1);exact Nat.one_le_two_pow
 |k+1,.neg e,h=>by have:=Ex.vlen (k:=k) (e:=e) h;show e.vars.length<=2 ^ (k+1);rw[Nat.pow_succ];omega
 |k+1,.pair _ a b,h=>by
  have h1:=Ex.vlen (k:=k) (e:=a) h.2.1;have h2:=Ex.vlen (k:=k) (e:=b) h.2.2;show (a.vars++b.vars).length<=2 ^ (k+1);rw[AAG,Nat.pow_succ];omega
theorem JZ:∀xs:List Str,ClL k (xs.map D.str)
 |[]=>by simp[ClL]
 |x::r=>by rw[AAW];unfold ClL;exact⟨by unfold Cl;trivial,JZ r⟩
theorem DV:∀(k n:Nat) (e:Ex) (μ:Mh),k<=n->k<=6->e.Ok k->Bj n [e.toD] μ=some (.lst (e.vars.map D.str),μ)
 |0,_,_,_,_,_,h=>by cases h
 |_+1,0,_,_,hn,_,_=>by omega
 |k+1,n+1,.num i,μ,hn,h6,h=>Hy (g:=[]) (τ2:=_) (by rw[AAY];unfold B0 Ex.toD;wtm_at "b") rfl (JZ [])
 |k+1,n+1,.var x,μ,hn,h6,h=>Hy (es:=[.str x]) (g:=[]) (τ2:=_) (by rw[AAY];unfold B0 Ex.toD;wtm_at "b") rfl (JZ [x])
 |k+1,n+1,.neg e,μ,hn,h6,h=>by
  have ih:=DV k n e (μ++[.lst []]) (by omega) (by omega) h;have hl:=Ex.vlen (k:=k) (e:=e) h;have hp:2 ^ k<=2 ^ 6:=Nat.pow_le_pow_right (by decide) (by omega);have hz:sizeLine=16777216:=by decide
  have hb:([]:List D).length+(e.vars.map D.str).length<=sizeLine:=by simp;omega
  have q:∃τ2,B0 (Bj n) (BQ 3 [(Ex.neg e).toD]) μ=some ((.rt (.ref μ.length),τ2),μ++[.lst (e.vars.map D.str)]):=by
   refine' ⟨_,Eq.trans ?e1 ?e2⟩
   case e1=>unfold B0 Ex.toD;wtm_at "b"
   case e2=>rfl
  obtain⟨τ2,q⟩:=q;exact HA q rfl (AAE _) (List.getElem?_concat_length) (JZ _)
 |k+1,n+1,.pair w a b,μ,hn,h6,h=>by
  obtain⟨hw,ha,hb⟩:=h;have ia:=DV k n a (μ++[.lst []]) (by omega) (by omega) ha;have ib:=DV k n b (μ++[.lst ([]++a.vars.map D.str)]) (by omega) (by omega) hb;have la:=Ex.vlen (k:=k) (e:=a) ha;have lb:=Ex.vlen (k:=k) (e:=b) hb;have hp:2 ^ k<=2 ^ 6:=Nat.pow_le_pow_right (by decide) (by omega);have hz:sizeLine=16777216:=by decide
  have hb1:([]:List D).length+(a.vars.map D.str).length<=sizeLine:=by simp;omega
  have hb2:([]++a.vars.map D.str).length+(b.vars.map D.str).length<=sizeLine:=by simp;omega
  have w1:PyData.strOk w=true/\w ≠ "num" /\ w ≠ "var" := by
   have hw:w∈(["+", "-", "=", "<", "and", "or"]:List Str):=hw;simp only[AAI,List.not_mem_nil,or_false] at hw;rcases hw with rfl|rfl|rfl|rfl|rfl|rfl<;>decide +kernel
  obtain⟨w1,w2,w3⟩:=w1;have q:∃τ2,B0 (Bj n) (BQ 3 [(Ex.pair w a b).toD]) μ=some ((.rt (.ref μ.length),τ2),μ++[.lst ([]++a.vars.map D.str++b.vars.map D.str)]):=by
   refine' ⟨_,?e⟩
   case e=>unfold B0 Ex.toD;wtm_at "b"
  obtain⟨τ2,q⟩:=q;have z:([]++a.vars.map D.str++b.vars.map D.str)=(Ex.pair w a b).vars.map D.str:=by simp[Ex.vars]
  rw[z] at q;exact HA q rfl (AAE _) (List.getElem?_concat_length) (JZ _)
end
inductive Rw where
 |put (bx:Str) (e:Ex)|get (x bx:Str)|letr (x:Str) (e:Ex)|unless (e:Ex) (t:Int)|jump (t:Int)|tell (e:Ex)|done
def Rw.toD:Rw->D
 | .put bx e=>.tup [.str "put",.str bx,e.toD]
 | .get x bx=>.tup [.str "get",.str x,.str bx]
 | .letr x e=>.tup [.str "let",.str x,e.toD]
 | .unless e t=>.tup [.str "unless",e.toD,.int t]
 | .jump t=>.tup [.str "jump",.int t]
 | .tell e=>.tup [.str "tell",e.toD]
 | .done=>.tup [.str "done"]
noncomputable def Rw.Form(l:Int):Rw->Prop
 | .put bx e=>GoodName bx/\e.Ok 5
 | .get x bx=>GoodName x/\GoodName bx
 | .letr x e=>GoodName x/\e.Ok 5
 | .unless e t=>e.Ok 5/\0<=t/\t<=l
 | .jump t=>0<=t/\t<=l
 | .tell e=>e.Ok 5
 | .done=>True
def Rw.vars:Rw->List Str
 | .put _ e=>e.vars
 | .get x _=>[x]
 | .letr x e=>x::e.vars
 | .unless e _=>e.vars
 | .jump _=>[]
 | .tell e=>e.vars
 | .done=>[]
section
variable{μ:Mh}{l:Int}{x:Str}{τ2:Sl}
theorem UJ{e:Ex}(h:e.Ok 5):Ee [.str "expression",e.toD,.int l] μ=some (.bl true,μ):=by
 have ih:=DH 5 6 e 5 μ rfl (by decide) h;exact BL (g:=[]) (τ2:=_) (by rw[AAY];unfold FZ Ef;wtm_at "b") rfl (by unfold Cl;trivial)
theorem UI(h1:0<=t)(h2:t<=l):Ee [.str "target",.int t,.int l] μ=some (.bl true,μ):=
 BL (g:=[]) (τ2:=_) (by rw[AAY];unfold FZ Ef;wtm_at "b") rfl (by unfold Cl;trivial)
theorem UH(h:GoodName x):Ee [.str "variable",.str x,.int l] μ=some (.bl true,μ):=
 BL (g:=[]) (τ2:=_) (by rw[AAY];unfold FZ Ef;wtm_at "b") rfl (by unfold Cl;trivial)
theorem UK(h:GoodName x):Ee [.str "box",.str x,.int l] μ=some (.bl true,μ):=
 BL (g:=[]) (τ2:=_) (by rw[AAY];unfold FZ Ef;wtm_at "b") rfl (by unfold Cl;trivial)
end
end K1
local macro_rules | `(tactic| wtm_at "h")=>`(tactic| first
 |((with_reducible apply K1.UJ);assumption)|((with_reducible apply K1.UI);(assumption);(assumption))|((with_reducible apply K1.UH);assumption)|((with_reducible apply K1.UK);assumption))
namespace K1
open PySem L2 Mi
section
variable{μ:Mh}{l:Int}{τ2:Sl}
theorem Mv:∀{r:Rw},r.Form l->EY [r.toD,.int l] μ=some (.non,μ)
 | .put bx e,⟨h1,h2⟩=>BA (g:=[]) (τ2:=_) (by rw[AAY];unfold CF Rw.toD;wtm_at "b") rfl
 | .get bx e,⟨h1,h2⟩=>BA (g:=[]) (τ2:=_) (by rw[AAY];unfold CF Rw.toD;wtm_at "b") rfl
 | .letr bx e,⟨h1,h2⟩=>BA (g:=[]) (τ2:=_) (by rw[AAY];unfold CF Rw.toD;wtm_at "b") rfl
 | .unless bx e,⟨h1,h2,h3⟩=>BA (g:=[]) (τ2:=_) (by rw[AAY];unfold CF Rw.toD;wtm_at "b") rfl
 | .jump t,⟨h1,h2⟩=>BA (g:=[]) (τ2:=_) (by rw[AAY];unfold CF Rw.toD;wtm_at "b") rfl
 | .tell e,h=>BA (g:=[]) (τ2:=_) (by have h:e.Ok 5:=h;rw[AAY];unfold CF Rw.toD;wtm_at "b") rfl
 | .done,h=>BA (g:=[]) (τ2:=_) (by rw[AAY];unfold CF Rw.toD;wtm_at "b") rfl
end
end K1
set_option maxHeartbeats 4000000
namespace K1
open PySem L2 Mi
section
variable{μ:Mh}{x:Str}{τ2:Sl}
theorem Ww{e:Ex}(h:e.Ok 5):Bj 6 [e.toD] μ=some (.lst (e.vars.map D.str),μ):=DV 5 6 e μ (by decide) (by decide) h
theorem PQ(hw:PyData.strOk w=true)(h:w ≠ "tell"):Ca [.str w,.bl true] μ=some (.non,μ):=
 BA (g:=[]) (τ2:=_) (by rw[AAY];unfold Eo;wtm_at "b") rfl
theorem PR(hw:PyData.strOk w=true)(h:w ≠ "done"):Ca [.str w,.bl false] μ=some (.non,μ):=
 BA (g:=[]) (τ2:=_) (by rw[AAY];unfold Eo;wtm_at "b") rfl
theorem aZ(h:x∈[a,b]):Co false (.str x) (.tup [.str a,.str b]) μ=some (.bl true,μ):=Vt (xs:=[a,b]) h
theorem aa(h:x∉[a,b]):Co false (.str x) (.tup [.str a,.str b]) μ=some (.bl false,μ):=Vu (xs:=[a,b]) h
end
end K1
local macro_rules | `(tactic| wtm_at "h")=>`(tactic| first
 |((with_reducible apply K1.Ww);assumption)|((with_reducible apply K1.aZ);wtm_at "d")|((with_reducible apply K1.aa);wtm_at "d")|((with_reducible apply K1.PQ);(wtm_at "d");(wtm_at "d"))|((with_reducible apply K1.PR);(wtm_at "d");(wtm_at "d")))
namespace K1
open PySem L2 Mi
section
variable{μ μ1 μ2:Mh}{l:Int}{x y:Str}{τ1 τ2:Sl}
theorem HY{r:Rw}(h:xs=r.vars.map D.str)(q:∃τ2,BT (Bj 6) (BQ 4 [r.toD]) μ=some ((.rt (.ref μ.length),τ2),μ++[.lst xs])):De [r.toD] μ=some (.lst (r.vars.map D.str),μ):=by
 obtain⟨τ2,q⟩:=q;rw[h] at q;exact HA q rfl (AAE _) List.getElem?_concat_length (JZ _)
theorem KP:∀{r:Rw},r.Form l->De [r.toD] μ=some (.lst (r.vars.map D.str),μ)
 | .put bx e,⟨h1,h2⟩=>by
  have hl:=Ex.vlen h2;have hz:sizeLine=16777216:=by decide
  refine HY (xs:=[]++e.vars.map D.str) rfl ?_;refine' ⟨_,?e1⟩
  case e1=>unfold BT Rw.toD;wtm_at "b"
 | .get x bx,⟨h1,h2⟩=>by
  refine HY (xs:=[]++[.str x]) rfl ?_;refine' ⟨_,?e1⟩
  case e1=>unfold BT Rw.toD;wtm_at "b"
 | .letr x e,⟨h1,h2⟩=>by
  have hl:=Ex.vlen h2;have hz:sizeLine=16777216:=by decide
  refine HY (xs:=[]++[.str x]++e.vars.map D.str) rfl ?_;refine' ⟨_,?e1⟩
  case e1=>unfold BT Rw.toD;wtm_at "b"
 | .unless e t,⟨h1,h2,h3⟩=>by
  have hl:=Ex.vlen h1;have hz:sizeLine=16777216:=by decide
  refine HY (xs:=[]++e.vars.map D.str) rfl ?_;refine' ⟨_,?e1⟩
  case e1=>unfold BT Rw.toD;wtm_at "b"
 | .jump t,⟨h1,h2⟩=>by
  refine HY (xs:=[]) rfl ?_;refine' ⟨_,?e1⟩
  case e1=>unfold BT Rw.toD;wtm_at "b"
 | .tell e,h1=>by
  have h1:e.Ok 5:=h1;have hl:=Ex.vlen h1;have hz:sizeLine=16777216:=by decide
  refine HY (xs:=[]++e.vars.map D.str) rfl ?_;refine' ⟨_,?e1⟩
  case e1=>unfold BT Rw.toD;wtm_at "b"
 | .done,_=>by
  refine HY (xs:=[]) rfl ?_;refine' ⟨_,?e1⟩
  case e1=>unfold BT Rw.toD;wtm_at "b"
def Rz(wr:Bool)(x:Str):Prop:=PyData.strOk x=true/\x∉(["not", "and", "or"]:List Str)/\(wr=true∨x ≠ "v")
theorem Lr:∀(xs:List Str) (o:Option D),(∀x∈xs,Rz wr x)->∃o',Ba (AM 2) (AQ (Ag (AF B4 (AC (mOp (Co true) (AD 2) (mC Dl)) (AC (mC (.str "a variable is called like a word of expressions")) AJ))))
  (Ag (AF B4 (AC (Px (AD 1) (mOp Cj (AD 2) (mC (.str "v")))) (AC (mC (.str "a reader has no variable v")) AJ))))) (xs.map D.str) [some rD,some (.bl wr),o] μ=some ((.next,[some rD,some (.bl wr),o']),μ)
 |[],o,_=>⟨o,rfl⟩
 |x::r,o,h=>by
  obtain⟨h1,h2,h3⟩:=h x (by simp);obtain⟨o',ih⟩:=Lr (wr:=wr) (rD:=rD) r (some (.str x)) λy hy=>h y (by simp[hy]);refine⟨o',?_⟩;refine CO (τ1:=[some rD,some (.bl wr),some (.str x)]) (τ2:=[some rD,some (.bl wr),some (.str x)]) (μ1:=μ) (μ2:=μ) rfl ?_ ih;unfold Dl;cases wr with
  |true=>wtm_at "b"
  |false=>
   have h4:x ≠ "v" := by rcases h3 with z|z;cases z;exact z
   wtm_at "b"
noncomputable def Rw.word:Rw->Str
 | .put _ _ => "put" | .get _ _ => "get" | .letr _ _ => "let" | .unless _ _ => "unless" | .jump _ => "jump" | .tell _ => "tell" | .done => "done"
noncomputable def Rw.setOk:Rw->Prop
 | .get x _=>x ≠ "v"
 | .letr x _=>x ≠ "v"
 |_=>True
theorem IN{wr:Bool}{r:Rw}(hf:r.Form l)(hv:∀x∈r.vars,Rz wr x)(hs:r.setOk):Cu [r.toD,.bl wr] μ=some (.non,μ):=by
 have v:=KP (μ:=μ) hf;obtain⟨o,lp⟩:=Lr (μ:=μ) (wr:=wr) (rD:=r.toD) r.vars none hv;have b:∃τ2,sIf (AR (mOp (Co false) (mOp AU (AD 0) (mC (.int 0))) (AF BU (AC (mC (.str "get")) (AC (mC (.str "let")) AJ))))) (Ag (AF B4 (AC (mOp Cj (mOp AU (AD 0) (mC (.int 1))) (mC (.str "v"))) (AC (mC (.str "the variable v is set by no row")) AJ)))) A1 [some r.toD,some (.bl wr),o] μ=some ((.next,τ2),μ):=by
  cases r with
  |get x bx=>
   have h1:=hf.1.ok;have h2:x ≠ "v" := hs;simp only[Rw.toD];exact⟨_,by wtm_at "b"⟩
  |letr x e=>
   have h1:=hf.1.ok;have h2:x ≠ "v" := hs;simp only[Rw.toD];exact⟨_,by wtm_at "b"⟩
  |_=>
   simp only[Rw.toD];exact⟨_,by wtm_at "b"⟩
 obtain⟨τ2,b⟩:=b;refine BA (g:=[]) (τ2:=τ2) ?_ rfl;rw[AAY];unfold FC;refine Ak (τ1:=[some r.toD,some (.bl wr),o]) (μ1:=μ) (FN (ds:=r.vars.map D.str) (μ1:=μ) (NZ (x:=.lst (r.vars.map D.str)) (μ1:=μ) (Ah (ds:=[r.toD]) (μ1:=μ) ?_ v) rfl) lp) b;rfl
end
end K1
set_option maxHeartbeats 4000000
namespace K1
open PySem L2 Mi
section
variable{μ:Mh}{n:Nat}{z:D}{τ:Sl}
theorem HC(h:μ[n]?=some (.dK L)):Gq (.ref n) μ=some ((n,L),μ):=by unfold Gq;dsimp only;rw[h]
theorem V9(h1:mo τ μ=some (.ref n,μ))(h:μ[n]?=some (.dK L))(h2:mi τ μ=some (.str bx,μ))(hv:Fq L (.inr bx)=some z):K8 mo mi τ μ=some (z,μ):=by
 unfold K8;rw[AO h1,AO (show NU (.ref n) μ=some ((),μ) from by unfold NU;rw[AO (HC h)];rfl),AO h2];unfold WH;rw[AO (HC h)];show some ((Fq L (.inr bx)).getD .non,μ)=_;rw[hv];rfl
theorem c9(h:μ[n]?=some (.dK L))(hv:(Fq L (.inr bx)).isSome=true):TQ false (.str bx) (.ref n) μ=some (.bl true,μ):=by
 unfold TQ;rw[AO (HC h)];show some (D.bl (Fq L (.inr bx)).isSome,μ)=_;rw[hv]
end
end K1
local macro_rules | `(tactic| wtm_at "h")=>`(tactic| first
 |((with_reducible apply K1.V9);(wtm_at "b");(assumption);(wtm_at "b");(assumption))|((with_reducible apply K1.c9);(assumption);(assumption)))
namespace K1
open PySem L2 Mi
section
variable{μ μ1 μ2:Mh}{n:Nat}{l:Int}{x y:Str}
noncomputable def Rw.Tab(L:List (Key×D))(nm:Str):Rw->Prop
 | .put bx _=>Fq L (.inr bx)=some (.str nm)
 | .get _ bx=>(Fq L (.inr bx)).isSome=true
 |_=>True
noncomputable def Rw.EndOk(wr:Bool):Rw->Prop
 | .tell _=>wr=false
 | .done=>wr=true
 |_=>True
structure Rw.Ok(L:List (Key×D))(nm:Str)(wr:Bool)(l:Int)(r:Rw):Prop where
 form:r.Form l
 ends:r.EndOk wr
 vars:∀x∈r.vars,Rz wr x
 set:r.setOk
 tab:r.Tab L nm
theorem UM:∀{r:Rw},r.EndOk wr->Ca [.str r.word,.bl wr] μ=some (.non,μ):=by
 intro r h;cases r with
 |tell e=>cases (show wr=false from h);simp only[Rw.word];exact PR (by decide +kernel) (by decide +kernel)
 |done=>cases (show wr=true from h);simp only[Rw.word];exact PQ (by decide +kernel) (by decide +kernel)
 |_=>
  simp only[Rw.word];cases wr with
  |false=>exact PR (by decide +kernel) (by decide +kernel)
  |true=>exact PQ (by decide +kernel) (by decide +kernel)
noncomputable abbrev O1:Sl->M (Fl×Sl):=(AQ (Ag (AF EY (AC (AD 3) (AC (AF Bq (AC (mOp AU (AD 0) (mC (.int 2))) AJ)) AJ))))
  (AQ (Ag (AF Ca (AC (mOp AU (AD 3) (mC (.int 0))) (AC (AD 1) AJ))))
  (AQ (Ag (AF Cu (AC (AD 3) (AC (AD 1) AJ))))
  (AQ (sIf (AR (mOp A3 (mOp AU (AD 3) (mC (.int 0))) (mC (.str "put")))) (Ag (AF B4 (AC (mOp A3 (K8 (AD 2) (mOp AU (AD 3) (mC (.int 1)))) (mOp AU (AD 0) (mC (.int 0)))) (AC (mC (.str "a hand puts a box that it does not write")) AJ)))) A1)
  (sIf (AR (mOp A3 (mOp AU (AD 3) (mC (.int 0))) (mC (.str "get")))) (Ag (AF B4 (AC (mOp (TQ false) (mOp AU (AD 3) (mC (.int 2))) (AD 2)) (AC (mC (.str "a hand gets a box that is none")) AJ)))) A1)))))
theorem Um(hn:μ[n]?=some (.dK L))(hm:PyData.strOk nm=true):∀{r:Rw},r.Ok L nm wr ds.length->
  O1 [some (.tup [.str nm,.int w,.tup ds]),some (.bl wr),some (.ref n),some r.toD] μ=some ((.next,[some (.tup [.str nm,.int w,.tup ds]),some (.bl wr),some (.ref n),some r.toD]),μ):=by
 intro r h;have c1:=Mv (μ:=μ) h.form;have c2:=UM (μ:=μ) h.ends;have c3:=IN (μ:=μ) h.form h.vars h.set;have c4:=h.tab;cases r with
 |put bx e=>
  have c4:Fq L (.inr bx)=some (.str nm):=c4;simp only[Rw.toD,Rw.word] at c1 c2 c3 ⊢;wtm_at "b"
 |get x bx=>
  have c4:(Fq L (.inr bx)).isSome=true:=c4;simp only[Rw.toD,Rw.word] at c1 c2 c3 ⊢;wtm_at "b"
 |_=>
  simp only[Rw.toD,Rw.word] at c1 c2 c3 ⊢;wtm_at "b"
theorem Lz(hn:μ[n]?=some (.dK L))(hm:PyData.strOk nm=true):∀(rs:List Rw) (o:Option D),(∀r∈rs,r.Ok L nm wr ds.length)->∃o',
  Ba (AM 3) O1 (rs.map Rw.toD) [some (.tup [.str nm,.int w,.tup ds]),some (.bl wr),some (.ref n),o] μ=some ((.next,[some (.tup [.str nm,.int w,.tup ds]),some (.bl wr),some (.ref n),o']),μ)
 |[],o,_=>⟨o,rfl⟩
 |r::rs,o,h=>by
  obtain⟨o',ih⟩:=Lz (w:=w) hn hm rs (some r.toD) λq hq=>h q (by simp[hq]);exact⟨o',CO rfl (Um hn hm (h r (by simp))) ih⟩
theorem Mu{L:List (Key×D)}{nm:Str}{w:Int}{rs:List Rw}(hn:μ[n]?=some (.dK L))(hm:PyData.strOk nm=true)(h:∀r∈rs,r.Ok L nm wr rs.length):EX [.tup [.str nm,.int w,.tup (rs.map Rw.toD)],.bl wr,.ref n] μ=some (.non,μ):=by
 obtain⟨o',lp⟩:=Lz (w:=w) (ds:=rs.map Rw.toD) hn hm rs none (by rw[AAF];exact h);exact BA (g:=[]) (by
  rw[AAY];exact FN (ds:=rs.map Rw.toD) (μ1:=μ) (NZ (x:=.tup (rs.map Rw.toD)) (μ1:=μ) (A9 (x:=.tup [.str nm,.int w,.tup (rs.map Rw.toD)]) (y:=.int 2) (μ1:=μ) (μ2:=μ) rfl rfl rfl) rfl) lp) rfl
end
end K1
set_option maxHeartbeats 4000000
namespace K1
open PySem L2 Mi
section
variable{μ μ1 μ2:Mh}{x:Str}{τ τ1 τ2:Sl}
theorem RC:∀(xs ys:List Str),(ys++xs).Nodup->(xs.foldl (λys x=>if x∈ys then ys else ys++[x]) ys)=ys++xs
 |[],ys,_=>by simp
 |x::xs,ys,h=>by
  have hx:x∉ys:=by
   intro hm;rw[List.nodup_append] at h;exact h.2.2 x hm x (by simp) rfl
  show xs.foldl _ (if x∈ys then ys else ys++[x])=_;rw[if_neg hx,RC xs (ys++[x]) (by simpa using h)];simp
theorem Qk:∀xs:List Str,GC (xs.map D.str)=some xs
 |[]=>rfl
 |x::r=>by
  show (GC (r.map D.str)).map (x::·)=_;rw[Qk r];rfl
theorem IP{xs:List Str}(h:xs.Nodup)(hl:xs.length<=1000):EZ [.lst (xs.map D.str)] μ=some (.bl true,μ):=by
 have e:J7 (.lst (xs.map D.str)) μ=some (.int xs.length,μ):=by
  unfold J7;rw[AO (show Bs (.lst (xs.map D.str)) μ=some (xs.map D.str,μ) from rfl),Qk];show (if xs.length+2<scanBound then some (D.int (C2 xs).length,μ) else none)=_;rw[if_pos (by have:scanBound=4096:=rfl;omega)];have:C2 xs=xs:=by unfold C2;rw[RC xs [] (by simpa using h)];simp
  rw[this]
 have hq:((xs.length:Nat):Int)=((xs.map D.str).length:Nat):=by simp
 exact BL (g:=[]) (τ2:=_) (by rw[AAY];unfold Ia;wtm_at "b") rfl (by unfold Cl;trivial)
structure Bx where
 nm:Str
 kd:Str
 sz:Int
 bg:Int
 wr:Str
def Bx.toD(b:Bx):D:=.tup [.str b.nm,.str b.kd,.int b.sz,.int b.bg,.str b.wr]
def Fj(kd:Str)(sz bg:Int):Prop:=kd∈(["safe", "steady", "whole"]:List Str)/\2<=sz/\sz<=10/\0<=bg/\bg<=sz-1
structure Hd where
 nm:Str
 wi:Int
 rs:List Rw
def Hd.toD(h:Hd):D:=.tup [.str h.nm,.int h.wi,.tup (h.rs.map Rw.toD)]
theorem Hl{α:Type}{f:α->D}{g:α->Str}{xs:List α}(h:∀a,∀ν:Mh,AU (f a) (.int 0) ν=some (.str (g a),ν))(hl:xs.length<=1000){ma:Sl->M D}(hm:ma τ μ=some (.tup (xs.map f),μ)):Bi 1 [] (Dw ma) (AM 0) Bu (mOp AU (AD 0) (mC (.int 0))) BE τ μ=some (.lst ((xs.map g).map D.str),μ):=by
 have hz:sizeLine=16777216:=by decide
 have go:∀(xs:List α) (ys:List D),Cb (AM 0) Bu (mOp AU (AD 0) (mC (.int 0))) (BR 1 [] τ) (xs.map f) ys μ=some (ys++(xs.map g).map D.str,μ):=by
  intro xs
  induction xs with
  |nil=>intro ys;show some (ys,μ)=_;simp
  |cons a xs ih=>
   intro ys;show bnd (AM 0 (f a) (BR 1 [] τ)) _ μ=_;rw[AO (show AM 0 (f a) (BR 1 [] τ) μ=some ((BR 1 [] τ).set 0 (some (f a)),μ) from rfl),AO (show Bu ((BR 1 [] τ).set 0 (some (f a))) μ=some (true,μ) from rfl),if_pos rfl,AO (A9 (Dj rfl) Hv (h a μ)),ih];simp
 refine Il (NZ hm Vq) (by simp;omega) (go xs []) (Cr (by simp;omega))
theorem LQ{o:Option D}:∀(bs:List Bx) (o:Option D),(∀b∈bs,GoodName b.nm/\Fj b.kd b.sz b.bg)->∃o',Ba (AM 1) (AQ (Ag (AF B4 (AC (AF CN (AC (AD 1) (AC (mC (.int 5)) (AC (mC (.int 5)) AJ)))) (AC (mC (.str "a box is a tuple of five parts")) AJ))))
  (AQ (Ag (AF B4 (AC (AF CY (AC (mOp AU (AD 1) (mC (.int 0))) AJ)) (AC (mC (.str "a box has a name")) AJ))))
  (Ag (AF CZ (AC (mOp AU (AD 1) (mC (.int 1))) (AC (mOp AU (AD 1) (mC (.int 2))) (AC (mOp AU (AD 1) (mC (.int 3))) AJ))))))) (bs.map Bx.toD) [some t,o] μ=some ((.next,[some t,o']),μ)
 |[],o,_=>⟨o,rfl⟩
 |b::bs,o,h=>by
  obtain⟨h1,h2,h3,h4,h5,h6⟩:=h b (by simp);obtain⟨o',ih⟩:=LQ (o:=none) (t:=t) bs (some b.toD) λq hq=>h q (by simp[hq]);have c:=GO (μ:=μ) h2 h3 h4 h5 h6;refine⟨o',CO (τ1:=[some t,some b.toD]) (τ2:=[some t,some b.toD]) (μ1:=μ) (μ2:=μ) rfl ?_ ih⟩;unfold Bx.toD;wtm_at "b"
theorem LG:∀(hs:List Hd) (o:Option D),(∀h∈hs,GoodName h.nm/\0<=h.wi/\h.wi<=400/\h.rs.length<=60)->∃o',Ba (AM 1) (AQ (Ag (AF B4 (AC (AF CN (AC (AD 1) (AC (mC (.int 3)) (AC (mC (.int 3)) AJ)))) (AC (mC (.str "a hand is a tuple of three parts")) AJ))))
  (AQ (Ag (AF B4 (AC (AF CY (AC (mOp AU (AD 1) (mC (.int 0))) AJ)) (AC (mC (.str "a hand has a name")) AJ))))
  (AQ (Ag (AF B4 (AC (AF DP (AC (mOp AU (AD 1) (mC (.int 1))) (AC (mC (.int 0)) (AC (mC EF) AJ)))) (AC (mC (.str "a told count is a whole number from 0 to 400")) AJ))))
  (Ag (AF B4 (AC (AF CN (AC (mOp AU (AD 1) (mC (.int 2))) (AC (mC (.int 0)) (AC (mC EK) AJ)))) (AC (mC (.str "rows are a tuple of at most sixty")) AJ))))))) (hs.map Hd.toD) [some t,o] μ=some ((.next,[some t,o']),μ)
 |[],o,_=>⟨o,rfl⟩
 |h::hs,o,hh=>by
  obtain⟨h1,h2,h3,h4⟩:=hh h (by simp);obtain⟨o',ih⟩:=LG (t:=t) hs (some h.toD) λq hq=>hh q (by simp[hq]);have q1:(0:Int)<=((h.rs.map Rw.toD).length:Nat):=by omega
  have q2:((h.rs.map Rw.toD).length:Nat)<=(60:Int):=by simp;omega
  refine⟨o',CO (τ1:=[some t,some h.toD]) (τ2:=[some t,some h.toD]) (μ1:=μ) (μ2:=μ) rfl ?_ ih⟩;unfold Hd.toD EF EK;wtm_at "b"
theorem Lc{bs:List Bx}(h:∀b∈bs,GoodName b.nm/\Fj b.kd b.sz b.bg)(hl:bs.length<=6)(hd:(bs.map Bx.nm).Nodup):EE [.tup (bs.map Bx.toD)] μ=some (.non,μ):=by
 obtain⟨o,lp⟩:=LQ (o:=none) (μ:=μ) (t:=.tup (bs.map Bx.toD)) bs none h;have c:=Hl (μ:=μ) (τ:=[some (.tup (bs.map Bx.toD)),o]) (f:=Bx.toD) (g:=Bx.nm) (xs:=bs) (λa ν=>rfl) (by omega) (ma:=AD 0) rfl;have u:=IP (μ:=μ) hd (by simp;omega);have q1:(0:Int)<=((bs.map Bx.toD).length:Nat):=by omega
 have q2:((bs.map Bx.toD).length:Nat)<=(6:Int):=by simp;omega
 have t:=HZ (μ:=μ) q1 q2;refine BA (g:=[]) (τ2:=[some (.tup (bs.map Bx.toD)),o]) ?_ rfl;rw[AAY];unfold HR Eb;refine Ak (τ1:=[some (.tup (bs.map Bx.toD)),none]) (μ1:=μ) (by show Ag _ [some (.tup (bs.map Bx.toD)),none] μ=_;wtm_at "b") (Ak (FN (ds:=bs.map Bx.toD) (μ1:=μ) rfl lp) ?_);wtm_at "b"
theorem Lb{hs:List Hd}(h:∀h∈hs,GoodName h.nm/\0<=h.wi/\h.wi<=400/\h.rs.length<=60)(h2:2<=hs.length)(hl:hs.length<=4)(hd:(hs.map Hd.nm).Nodup):ED [.tup (hs.map Hd.toD)] μ=some (.non,μ):=by
 obtain⟨o,lp⟩:=LG (μ:=μ) (t:=.tup (hs.map Hd.toD)) hs none h;have c:=Hl (μ:=μ) (τ:=[some (.tup (hs.map Hd.toD)),o]) (f:=Hd.toD) (g:=Hd.nm) (xs:=hs) (λa ν=>rfl) (by omega) (ma:=AD 0) rfl;have u:=IP (μ:=μ) hd (by simp;omega);have q1:(2:Int)<=((hs.map Hd.toD).length:Nat):=by simp;omega
 have q2:((hs.map Hd.toD).length:Nat)<=(4:Int):=by simp;omega
 have t:=HZ (μ:=μ) q1 q2;refine BA (g:=[]) (τ2:=[some (.tup (hs.map Hd.toD)),o]) ?_ rfl;rw[AAY];unfold HQ EG Ea;refine Ak (τ1:=[some (.tup (hs.map Hd.toD)),none]) (μ1:=μ) (by show Ag _ [some (.tup (hs.map Hd.toD)),none] μ=_;wtm_at "b") (Ak (FN (ds:=hs.map Hd.toD) (μ1:=μ) rfl lp) ?_);wtm_at "b"
end
end K1
set_option maxHeartbeats 4000000
namespace K1
open PySem L2 Mi
section
variable{μ μ1 μ2:Mh}{n:Nat}{x y:Str}{τ τ1 τ2:Sl}
theorem aY{xs:List Str}(h:x∈xs):Co false (.str x) (.lst (xs.map D.str)) μ=some (.bl true,μ):=by
 show HS false (.str x) (.lst (xs.map D.str)) μ=_;rw[G5 (ds:=[]) rfl,AAO h];rfl
noncomputable def kv(b:Bx):Key×D:=(.inr b.nm,.str b.wr)
theorem XN(h:b.nm∉bs.map Bx.nm):NA (bs.map kv) (.inr b.nm) (.str b.wr)=(bs++[b]).map kv:=by
 unfold NA;rw[if_neg]
 ·simp[kv]
 ·intro z;rw[List.any_eq_true] at z;obtain⟨p,hp,e⟩:=z;rw[AAL] at hp;obtain⟨c,hc,rfl⟩:=hp;have e:=of_decide_eq_true e;have e2:(Sum.inr c.nm:Key)=.inr b.nm:=e;exact h (AAL.mpr ⟨c,hc,Sum.inr.inj e2⟩)
theorem PN:∀{bs:List Bx} {b:Bx},(bs.map Bx.nm).Nodup->b∈bs->Fq (bs.map kv) (.inr b.nm)=some (.str b.wr)
 |c::bs,b,hd,hb=>by
  unfold Fq;rw[AAW,List.find?_cons];rw[AAW,List.nodup_cons] at hd;by_cases e:c.nm=b.nm
  ·have hbc:b=c:=by
    rcases AAI.mp hb with z|z
    ·exact z
    ·exact absurd (show b.nm∈bs.map Bx.nm from AAL.mpr ⟨b,z,rfl⟩) (by rw[←e];exact hd.1)
   subst hbc;simp[kv]
  ·have hb':b∈bs:=by
    rcases AAI.mp hb with z|z
    ·exact absurd (by rw[z]) e
    ·exact z
   have:decide ((kv c).1=(Sum.inr b.nm:Key))=false:=AAN (by intro z;exact e (Sum.inr.inj (show (Sum.inr c.nm:Key)=.inr b.nm from z)));simp only[this];exact PN hd.2 hb'
theorem YJ(h1:mv τ μ=some (v,μ))(h2:mo τ μ=some (.ref n,μ))(h3:mi τ μ=some (.str x,μ))(h:μ[n]?=some (.dK L))(hl:L.length<sizeLine):OH mo mi mv τ μ=some ((.next,τ),μ.set n (.dK (NA L (.inr x) v))):=by
 unfold OH;rw[AO h1,AO h2,AO h3,AO (HC h)];show (if L.length<sizeLine then some ((Fl.next,τ),μ.set n (.dK (NA L (.inr x) v))) else none)=_;rw[if_pos hl]
structure Mk where
 kd:Str
 sz:Int
 bg:Int
 bs:List Bx
 hs:List Hd
def Mk.toD(m:Mk):D:=.tup [.str m.kd,.int m.sz,.int m.bg,.tup (m.bs.map Bx.toD),.tup (m.hs.map Hd.toD)]
structure Mk.Ok(m:Mk):Prop where
 worth:Fj m.kd m.sz m.bg
 boxes:∀b∈m.bs,GoodName b.nm/\Fj b.kd b.sz b.bg
 most:m.bs.length<=6
 unlike:(m.bs.map Bx.nm).Nodup
 hands:∀h∈m.hs,GoodName h.nm/\0<=h.wi/\h.wi<=400/\h.rs.length<=60
 least:2<=m.hs.length
 mosth:m.hs.length<=4
 unlikeh:(m.hs.map Hd.nm).Nodup
 writers:∀b∈m.bs,b.wr∈m.hs.map Hd.nm
 rows:∀(i:Nat) (h:Hd),m.hs[i]?=some h->∀r∈h.rs,r.Ok (m.bs.map kv) h.nm (i==0) h.rs.length
theorem IH{t:D}{ns:List Str}{o4 o5:Option D}:∀(rest done:List Bx) (o:Option D),((done++rest).map Bx.nm).Nodup->(done++rest).length<=1000->(∀b∈rest,b.wr∈ns)->∃o',Ba (AM 3) (AQ (Ag (AF B4 (AC (mOp (Co false) (mOp AU (AD 3) (mC (.int 4))) (AD 1)) (AC (mC (.str "the hand of a box is none")) AJ))))
  (OH (AD 2) (mOp AU (AD 3) (mC (.int 0))) (mOp AU (AD 3) (mC (.int 4))))) (rest.map Bx.toD) [some t,some (.lst (ns.map D.str)),some (.ref μ.length),o,o4,o5] (μ++[.dK (done.map kv)])=some ((.next,[some t,some (.lst (ns.map D.str)),some (.ref μ.length),o',o4,o5]),μ++[.dK ((done++rest).map kv)])
 |[],done,o,_,_,_=>⟨o,by rw[AAY];rfl⟩
 |b::rest,done,o,hd,hl,h=>by
  have hz:sizeLine=16777216:=by decide
  obtain⟨o',ih⟩:=IH (t:=t) (ns:=ns) (o4:=o4) (o5:=o5) rest (done++[b]) (some b.toD) (by simpa using hd) (by simpa using hl) λq hq=>h q (by simp[hq]);have hb:b.nm∉done.map Bx.nm:=by
   rw[AAX,List.nodup_append] at hd;intro z;exact hd.2.2 _ z b.nm (by simp) rfl
  have hw:=h b (by simp);have q:=aY (μ:=μ++[.dK (done.map kv)]) hw;have p:=YJ (μ:=μ++[.dK (done.map kv)]) (τ:=[some t,some (.lst (ns.map D.str)),some (.ref μ.length),some b.toD,o4,o5]) (mo:=AD 2) (mi:=mOp AU (AD 3) (mC (.int 0))) (mv:=mOp AU (AD 3) (mC (.int 4))) (v:=.str b.wr) (x:=b.nm) (n:=μ.length) (L:=done.map kv) rfl rfl rfl List.getElem?_concat_length (by simp at hl ⊢;omega);rw[XN hb] at p;have e:(μ++[MO.dK (done.map kv)]).set μ.length (.dK ((done++[b]).map kv))=μ++[.dK ((done++[b]).map kv)]:=by simp
  rw[e] at p;have ap:done++b::rest=done++[b]++rest:=by simp
  rw[ap];refine⟨o',CO (τ1:=[some t,some (.lst (ns.map D.str)),some (.ref μ.length),some b.toD,o4,o5]) (μ1:=μ++[.dK (done.map kv)]) rfl (Ak (τ1:=[some t,some (.lst (ns.map D.str)),some (.ref μ.length),some b.toD,o4,o5]) (μ1:=μ++[.dK (done.map kv)]) ?_ p) ih⟩;unfold Bx.toD;wtm_at "b"
theorem LP(hn:μ[n]?=some (.dK L)):∀(hs:List Hd) (k:Nat) (o4 o5:Option D),(∀h∈hs,PyData.strOk h.nm=true)->(∀(i:Nat) (h:Hd),hs[i]?=some h->∀r∈h.rs,r.Ok L h.nm (i+k==0) h.rs.length)->∃o4' o5',
  Ba (DT [4,5]) (Ag (AF EX (AC (AD 5) (AC (mOp A3 (AD 4) (mC (.int 0))) (AC (AD 2) AJ))))) (DS k (hs.map Hd.toD)) [t,t1,some (.ref n),o3,o4,o5] μ=some ((.next,[t,t1,some (.ref n),o3,o4',o5']),μ)
 |[],k,o4,o5,_,_=>⟨o4,o5,rfl⟩
 |h::hs,k,o4,o5,hh,hr=>by
  obtain⟨o4',o5',ih⟩:=LP (t:=t) (t1:=t1) (o3:=o3) hn hs (k+1) (some (.int k)) (some h.toD) (λq hq=>hh q (by simp[hq])) λi q hq r hrr=>by
   have:=hr (i+1) q (by simpa using hq) r hrr;rw[show i+(k+1)=i+1+k from by omega];exact this
  have hb:(((k:Nat):Int)==0)=(0+k==0):=by
   rw[Nat.zero_add];by_cases z:k=0
   ·subst z;rfl
   ·rw[AAd.mpr z,AAd.mpr (by omega)]
  have c:=Mu (w:=h.wi) hn (hh h (by simp)) (hr 0 h rfl);have e:A3 (.int k) (.int 0) μ=some (.bl (0+k==0),μ):=by rw[RX,hb]
  refine⟨o4',o5',CO (τ1:=[t,t1,some (.ref n),o3,some (.int k),some h.toD]) (τ2:=[t,t1,some (.ref n),o3,some (.int k),some h.toD]) (μ1:=μ) (μ2:=μ) rfl ?_ ih⟩;exact G6 (Ah (ds:=[h.toD,.bl (0+k==0),.ref n]) (μ1:=μ) (Ad (μ1:=μ) rfl (Ad (μ1:=μ) (A9 (x:=.int k) (y:=.int 0) (μ1:=μ) (μ2:=μ) rfl rfl e) (Ad (μ1:=μ) rfl rfl))) c)
theorem KR{m:Mk}(h:m.Ok):Eu [m.toD] μ=some (.non,μ):=by
 obtain⟨w1,w2,w3,w4,w5⟩:=h.worth;have c1:=GO (μ:=μ) w1 w2 w3 w4 w5;have c2:=Lc (μ:=μ) h.boxes h.most h.unlike;have c3:=Lb (μ:=μ) h.hands h.least h.mosth h.unlikeh;have c4:=Hl (μ:=μ) (τ:=[some m.toD,none,none,none,none,none]) (f:=Hd.toD) (g:=Hd.nm) (xs:=m.hs) (λa ν=>rfl) (by have:=h.mosth;omega) (ma:=mOp AU (AD 0) (mC (.int 4))) rfl;obtain⟨o3,l1⟩:=IH (μ:=μ) (t:=m.toD) (ns:=m.hs.map Hd.nm) (o4:=none) (o5:=none) m.bs [] none (by simpa using h.unlike) (by have:=h.most;simp;omega) h.writers;obtain⟨o4,o5,l2⟩:=LP (μ:=μ++[.dK (([]++m.bs).map kv)]) (n:=μ.length) (t:=some m.toD) (t1:=some (.lst ((m.hs.map Hd.nm).map D.str))) (o3:=o3) List.getElem?_concat_length m.hs 0 none none (λq hq=>(h.hands q hq).1.ok) (by simpa using h.rows);refine BA (g:=[.dK (([]++m.bs).map kv)]) (τ2:=[some m.toD,some (.lst ((m.hs.map Hd.nm).map D.str)),some (.ref μ.length),o3,o4,o5]) ?_ rfl;unfold Gh;have a1:∀{τ:Sl},τ=[some m.toD,none,none,none,none,none]->Ag (AF B4 (AC (AF CN (AC (AD 0) (AC (mC (.int 5)) (AC (mC (.int 5)) AJ)))) (AC (mC (.str "a making is a tuple of five parts")) AJ))) τ μ=some ((.next,τ),μ):=by
  intro τ e;subst e;unfold Mk.toD;wtm_at "b"
 have a2:Ag (AF CZ (AC (mOp AU (AD 0) (mC (.int 0))) (AC (mOp AU (AD 0) (mC (.int 1))) (AC (mOp AU (AD 0) (mC (.int 2))) AJ)))) [some m.toD,none,none,none,none,none] μ=some ((.next,[some m.toD,none,none,none,none,none]),μ):=by
  unfold Mk.toD;wtm_at "b"
 have a3:Ag (AF EE (AC (mOp AU (AD 0) (mC (.int 3))) AJ)) [some m.toD,none,none,none,none,none] μ=some ((.next,[some m.toD,none,none,none,none,none]),μ):=by
  unfold Mk.toD;wtm_at "b"
 have a4:Ag (AF ED (AC (mOp AU (AD 0) (mC (.int 4))) AJ)) [some m.toD,none,none,none,none,none] μ=some ((.next,[some m.toD,none,none,none,none,none]),μ):=by
  unfold Mk.toD;wtm_at "b"
 refine Ak (a1 rfl) (Ak a2 (Ak a3 (Ak a4 (Ak (τ1:=[some m.toD,some (.lst ((m.hs.map Hd.nm).map D.str)),none,none,none,none]) (μ1:=μ) (BX c4 rfl) (Ak (τ1:=[some m.toD,some (.lst ((m.hs.map Hd.nm).map D.str)),some (.ref μ.length),none,none,none]) (μ1:=μ++[.dK []]) rfl (Ak (FN (ds:=m.bs.map Bx.toD) (μ1:=μ++[.dK []]) rfl l1) (FN (ds:=DS 0 (m.hs.map Hd.toD)) rfl l2)))))))
end
end K1
set_option maxHeartbeats 4000000
namespace K1
open PySem L2 Mi
section
variable{μ:Mh}{x y:Str}
theorem Lv:∀xs:List Str,GG μ (xs.map D.str)=some (xs.map PyData.str)
 |[]=>rfl
 |x::r=>by
  rw[AAW];unfold GG;rw[Lv r];rfl
theorem Oa:∀{xs:List Str},(∀x∈xs,PyData.strOk x=true)->PyData.canLayAll0 (xs.map PyData.str)=true/\PyData.depthAll (xs.map PyData.str)=0
 |[],_=>⟨rfl,rfl⟩
 |x::r,h=>by
  obtain⟨h1,h2⟩:=Oa (xs:=r) λy hy=>h y (by simp[hy]);refine⟨?_,?_⟩
  ·rw[AAW];unfold PyData.canLayAll0;rw[h1,Bool.and_true];exact h x (by simp)
  ·rw[AAW];unfold PyData.depthAll;rw[h2];rfl
theorem OE{xs:List Str}(h:∀x∈xs,PyData.strOk x=true):SeqAt.shaped (.list (xs.map PyData.str))=true:=by
 obtain⟨h1,h2⟩:=Oa h;show (PyData.canLayAll0 (xs.map PyData.str)&&decide (PyData.depthAll (xs.map PyData.str)+1<=64))=true;rw[h1,h2];rfl
theorem KA{neg:Bool}{xs:List Str}(h:∀x∈xs,PyData.strOk x=true):HM neg (.lst (xs.map D.str)) (.lst []) μ=some (.bl (if neg then !(PyData.eqv (.list (xs.map PyData.str)) (.list [])) else PyData.eqv (.list (xs.map PyData.str)) (.list [])),μ):=by
 have e1:My μ (.lst (xs.map D.str))=some (.list (xs.map PyData.str)):=by
  show (GG μ (xs.map D.str)).map PyData.list=_;rw[Lv];rfl
 have e2:My μ (.lst [])=some (.list []):=rfl;unfold HM;rw[e1,e2];show (if SeqAt.shaped (.list (xs.map PyData.str))=true/\SeqAt.shaped (.list [])=true then _ else none)=_;rw[if_pos ⟨OE h,rfl⟩]
theorem X2:A3 (.lst []) (.lst []) μ=some (.bl true,μ):=KA (neg:=false) (xs:=[]) (by simp)
theorem NM:Cj (.lst []) (.lst []) μ=some (.bl false,μ):=KA (neg:=true) (xs:=[]) (by simp)
theorem Vy{xs:List Str}(h:∀x∈xs,PyData.strOk x=true)(hn:xs≠[]):A3 (.lst (xs.map D.str)) (.lst []) μ=some (.bl false,μ):=by
 cases xs with
 |nil=>exact absurd rfl hn
 |cons x r=>exact KA (neg:=false) h
theorem LB{xs:List Str}(h:∀x∈xs,PyData.strOk x=true)(hn:xs≠[]):Cj (.lst (xs.map D.str)) (.lst []) μ=some (.bl true,μ):=by
 cases xs with
 |nil=>exact absurd rfl hn
 |cons x r=>exact KA (neg:=true) h
theorem Ky{α:Type}{f:α->D}{xs:List α}{i:Int}(h1:0<=i)(h2:i<xs.length):∃a∈xs,atI (xs.map f) i=some (f a):=by
 obtain⟨k,rfl⟩:=Int.eq_ofNat_of_zero_le h1;have hk:k<xs.length:=by omega
 refine⟨xs[k],List.getElem_mem hk,?_⟩;unfold atI ixN;rw[if_pos h1,if_pos (by rw[AAF];exact h2)];show (xs.map f)[(k:Int).toNat]?=_;simp[hk]
theorem Ex.cl:∀e:Ex,Cl k e.toD
 | .num _=>by simp[Ex.toD,Cl,ClL]
 | .var _=>by simp[Ex.toD,Cl,ClL]
 | .neg e=>by have:=Ex.cl (k:=k) e;simp[Ex.toD,Cl,ClL,this]
 | .pair _ a b=>by have h1:=Ex.cl (k:=k) a;have h2:=Ex.cl (k:=k) b;simp[Ex.toD,Cl,ClL,h1,h2]
end
end K1
local macro_rules | `(tactic| wtm_at "h")=>`(tactic| first
 |with_reducible assumption|(with_reducible apply K1.X2)|(with_reducible apply K1.NM)|((with_reducible apply K1.Vy);(assumption);(assumption))|((with_reducible apply K1.LB);(assumption);(assumption))|((with_reducible apply K1.l_minT);omega)|((with_reducible apply K1.l_minF);omega)|((with_reducible apply Mi.Fb);assumption))
namespace K1
open PySem L2 Mi
section
variable{μ μ2 μ':Mh}{w:Nat}{x:Str}
noncomputable abbrev Yo:Sl->M (Fl×Sl):=(AQ (sIf (mOr (AR (mOp A3 (AD 1) (AF BE AJ))) (AR (mOp A3 (AF BM (AC (AD 0) (AC (mC (.int 2)) AJ))) (mC (.int 0))))) (Ar (AF BU (AC (mC (.str "num")) (AC (AF BM (AC (AD 0) (AC (mC (.int 10)) AJ))) AJ)))) A1)
  (Ar (AF BU (AC (mC (.str "var")) (AC (mOp AU (AD 1) (AF BM (AC (AD 0) (AC (AF Bq (AC (AD 1) AJ)) AJ)))) AJ)))))
theorem X0{k:Nat}{j r1:Int}{ns:List Str}(hw:WellAt μ w)(hns:∀x∈ns,GoodName x)(hl:ns.length<=1000):∃(e:Ex) (μ':Mh) (τ':Sl),Yo [some (.ref w),some (.lst (ns.map D.str)),some (.int j),some (.int r1),none,none,none] μ=some ((.rt e.toD,τ'),μ')/\e.Ok (k+1)/\(∀x∈e.vars,x∈ns)/\Upd w μ μ':=by
 by_cases h0:ns=[]
 ·subst h0;obtain⟨r2,μ2,d2,a2,b2,u2⟩:=Cz (b:=10) hw (by decide) (by decide);refine⟨.num r2,μ2,[some (.ref w),some (.lst []),some (.int j),some (.int r1),none,none,none],?_,⟨a2,by omega⟩,by simp[Ex.vars],u2⟩;unfold Ex.toD;show Yo [some (.ref w),some (.lst []),some (.int j),some (.int r1),none,none,none] μ=_;wtm_at "b"
 ·have hok:∀x∈ns,PyData.strOk x=true:=λx hx=>(hns x hx).ok;obtain⟨r2,μ2,d2,a2,b2,u2⟩:=Cz (b:=2) hw (by decide) (by decide);have w2:=u2.well hw.lt;by_cases hr:r2=0
  ·obtain⟨r3,μ3,d3,a3,b3,u3⟩:=Cz (b:=10) w2 (by decide) (by decide);refine⟨.num r3,μ3,[some (.ref w),some (.lst (ns.map D.str)),some (.int j),some (.int r1),none,none,none],?_,⟨a3,by omega⟩,by simp[Ex.vars],u2.trans u3⟩;unfold Ex.toD;wtm_at "b"
  ·have hp:0<ns.length:=List.length_pos_iff.mpr h0;obtain⟨r3,μ3,d3,a3,b3,u3⟩:=Cz (b:=((ns.map D.str).length:Nat)) w2 (by simp;omega) (by simp;omega);obtain⟨x,hx,px⟩:=Ky (f:=D.str) (xs:=ns) a3 (by simpa using b3);refine⟨.var x,μ3,[some (.ref w),some (.lst (ns.map D.str)),some (.int j),some (.int r1),none,none,none],?_,hns x hx,by simp[Ex.vars,hx],u2.trans u3⟩;unfold Ex.toD;wtm_at "b"
end
end K1
set_option maxHeartbeats 4000000
namespace K1
open PySem L2 Mi
section
variable{μ μ1 μ2 μ':Mh}{n w:Nat}{d:D}{x:Str}{τ1 τ2:Sl}
theorem Upd.fin(e:mb (BQ N ds) μ=some ((.rt d,τ2),μ1))(hl:ds.length=ps)(u:Upd w μ μ1)(c:Cl μ.length d):BF .drop N ps mb ds μ=some (d,μ1):=
 G9 (g:=[]) (by rw[AAY];exact e) hl u c
theorem UG(h1:4<=i)(h2:i<10):∃x∈BD,atI [D.str "+",.str "-",.str "=",.str "<",.str "and",.str "or"] (i-4)=some (.str x):=
 Ky (f:=D.str) (xs:=BD) (by omega) (by show i-4<6;omega)
theorem KQ{w:Nat}{ns:List Str}(hns:∀x∈ns,GoodName x)(hl:ns.length<=1000):∀(k n:Nat) (j:Int) (μ:Mh),j=k->1<=k->k<=n->WellAt μ w->∃(e:Ex) (μ':Mh),Dh n [.ref w,.lst (ns.map D.str),.int j] μ=some (e.toD,μ')/\e.Ok k/\(∀x∈e.vars,x∈ns)/\Upd w μ μ'
 |0,_,_,_,_,h,_,_=>by omega
 |_+1,0,_,_,_,_,h,_=>by omega
 |k+1,n+1,j,μ,hj,_,hn,hw=>by
  obtain⟨r1,μ1,d1,a1,b1,u1⟩:=Cz (b:=10) hw (by decide) (by decide);have w1:=u1.well hw.lt;by_cases c:j=1∨r1<3
  ·obtain⟨e,μ',τ',q,ok,vs,u⟩:=X0 (k:=k) (j:=j) (r1:=r1) w1 hns hl;refine⟨e,μ',?_,ok,vs,u1.trans u⟩;refine Upd.fin (τ2:=τ') ?_ rfl (u1.trans u) (Ex.cl e);have t:mOr (AR (mOp A3 (AD 2) (mC (.int 1)))) (AR (mOp Ez (AD 3) (mC (.int 3)))) [some (.ref w),some (.lst (ns.map D.str)),some (.int j),some (.int r1),none,none,none] μ1=some (true,μ1):=by
    by_cases c1:j=1
    ·wtm_at "b"
    ·have c2:r1<3:=by omega
     wtm_at "b"
   exact Ak (τ1:=[some (.ref w),some (.lst (ns.map D.str)),some (.int j),some (.int r1),none,none,none]) (μ1:=μ1) (BX (Ah (ds:=[.ref w,.int 10]) (μ1:=μ) rfl d1) rfl) (Ij (Gm t q))
  ·have c1:j≠1:=by omega
   have c2:3<=r1:=by omega
   by_cases c3:r1=3
   ·obtain⟨e,μ',q,ok,vs,u⟩:=KQ hns hl k n (j-1) μ1 (by omega) (by omega) (by omega) w1;refine⟨.neg e,μ',?_,ok,vs,u1.trans u⟩;refine Upd.fin (τ2:=[some (.ref w),some (.lst (ns.map D.str)),some (.int j),some (.int r1),none,none,none]) ?_ rfl (u1.trans u) (Ex.cl (.neg e));unfold Ex.toD;refine Ak (τ1:=[some (.ref w),some (.lst (ns.map D.str)),some (.int j),some (.int r1),none,none,none]) (μ1:=μ1) (BX (Ah (ds:=[.ref w,.int 10]) (μ1:=μ) rfl d1) rfl) ?_;wtm_at "b"
   ·have c4:4<=r1:=by omega
    obtain⟨wd,hwd,pw⟩:=UG c4 b1;obtain⟨a,μ2,q2,ok2,vs2,u2⟩:=KQ hns hl k n (j-1) μ1 (by omega) (by omega) (by omega) w1;have w2:=u2.well w1.lt;obtain⟨b,μ3,q3,ok3,vs3,u3,kb,j2,m2⟩:∃(b:Ex) (μ3:Mh),Dh n [.ref w,.lst (ns.map D.str),.int (if 2<j-1 then 2 else j-1)] μ2=some (b.toD,μ3)/\b.Ok k/\(∀x∈b.vars,x∈ns)/\Upd w μ2 μ3/\True/\True/\True:=by
     by_cases z:2<j-1
     ·obtain⟨b,μ3,q3,ok3,vs3,u3⟩:=KQ hns hl (min k 2) n 2 μ2 (by omega) (by omega) (by omega) w2;exact⟨b,μ3,by rw[if_pos z];exact q3,ok3.mono (by omega),vs3,u3,trivial,trivial,trivial⟩
     ·obtain⟨b,μ3,q3,ok3,vs3,u3⟩:=KQ hns hl k n (j-1) μ2 (by omega) (by omega) (by omega) w2;exact⟨b,μ3,by rw[if_neg z];exact q3,ok3,vs3,u3,trivial,trivial,trivial⟩
    have w3:=u3.well w2.lt;obtain⟨r4,μ4,d4,a4,b4,u4⟩:=Cz (b:=2) w3 (by decide) (by decide);have U:=u1.trans (u2.trans (u3.trans u4));have mn:Sn [.int (j-1),.int 2] μ2=some (.int (if 2<j-1 then 2 else j-1),μ2):=rfl;have fin:∀(e:Ex),atI [D.tup [.str wd,a.toD,b.toD],.tup [.str wd,b.toD,a.toD]] r4=some e.toD->Dh (n+1) [.ref w,.lst (ns.map D.str),.int j] μ=some (e.toD,μ4):=by
     intro e he;refine Upd.fin (τ2:=[some (.ref w),some (.lst (ns.map D.str)),some (.int j),some (.int r1),some (.str wd),some a.toD,some b.toD]) ?_ rfl U (Ex.cl e);refine Ak (τ1:=[some (.ref w),some (.lst (ns.map D.str)),some (.int j),some (.int r1),none,none,none]) (μ1:=μ1) (BX (Ah (ds:=[.ref w,.int 10]) (μ1:=μ) rfl d1) rfl) ?_;refine Ak (τ1:=[some (.ref w),some (.lst (ns.map D.str)),some (.int j),some (.int r1),none,none,none]) (μ1:=μ1) (by wtm_at "b") ?_;refine Ak (τ1:=[some (.ref w),some (.lst (ns.map D.str)),some (.int j),some (.int r1),none,none,none]) (μ1:=μ1) (by wtm_at "b") ?_;refine Ak (τ1:=[some (.ref w),some (.lst (ns.map D.str)),some (.int j),some (.int r1),some (.str wd),none,none]) (μ1:=μ1) (BX (d:=.str wd) (μ1:=μ1) (by wtm_at "b") rfl) ?_;refine Ak (τ1:=[some (.ref w),some (.lst (ns.map D.str)),some (.int j),some (.int r1),some (.str wd),some a.toD,none]) (μ1:=μ2) (BX (d:=a.toD) (μ1:=μ2) (by wtm_at "b") rfl) ?_;refine Ak (τ1:=[some (.ref w),some (.lst (ns.map D.str)),some (.int j),some (.int r1),some (.str wd),some a.toD,some b.toD]) (μ1:=μ3) (BX (d:=b.toD) (μ1:=μ3) (Ah (ds:=[.ref w,.lst (ns.map D.str),.int (if 2<j-1 then 2 else j-1)]) (μ1:=μ2) rfl q3) rfl) ?_;wtm_at "b"
    by_cases z:r4=0
    ·refine⟨.pair wd a b,μ4,fin _ (by subst z;rfl),⟨hwd,ok2,ok3⟩,λx hx=>?_,U⟩;rcases AAJ.mp (show x∈a.vars++b.vars from hx) with q|q
     ·exact vs2 x q
     ·exact vs3 x q
    ·have z1:r4=1:=by omega
     refine⟨.pair wd b a,μ4,fin _ (by subst z1;rfl),⟨hwd,ok3,ok2⟩,λx hx=>?_,U⟩;rcases AAJ.mp (show x∈b.vars++a.vars from hx) with q|q
     ·exact vs3 x q
     ·exact vs2 x q
end
end K1
set_option maxHeartbeats 4000000
namespace K1
open PySem L2 Mi
noncomputable def HD(ns:List Str)(wr:Bool):List Str:=ns++(if wr then (["v"]:List Str) else [])
noncomputable def Rw.From(own bxs ns:List Str):Rw->Prop
 | .put bx _=>bx∈own
 | .get x bx=>x∈ns/\bx∈bxs
 | .letr x _=>x∈ns
 |_=>True
structure Rw.Drawn(own bxs ns:List Str)(wr:Bool)(l:Int)(r:Rw):Prop where
 form:r.Form l
 ends:r.EndOk wr
 vars:∀x∈r.vars,x∈HD ns wr
 frm:r.From own bxs ns
section
variable{μ μ1 μ2 μ':Mh}{w:Nat}{d:D}{x y:Str}{τ τ1 τ2:Sl}
theorem Rw.cl(r:Rw):Cl k r.toD:=by
 cases r with
 |put bx e=>have:=Ex.cl (k:=k) e;simp[Rw.toD,Cl,ClL,this]
 |letr bx e=>have:=Ex.cl (k:=k) e;simp[Rw.toD,Cl,ClL,this]
 | «unless» e t=>have:=Ex.cl (k:=k) e;simp[Rw.toD,Cl,ClL,this]
 |tell e=>have:=Ex.cl (k:=k) e;simp[Rw.toD,Cl,ClL,this]
 |_=>simp[Rw.toD,Cl,ClL]
theorem YK(h1:0<=i)(h2:i<4):∃k:Int,1<=k/\k<=5/\atI [D.int 1,.int 2,.int 3,.int 5] i=some (.int k):=by
 obtain⟨k,hk,e⟩:=Ky (f:=D.int) (xs:=[1,2,3,5]) h1 (by show i<4;exact h2);simp at hk;exact⟨k,by omega,by omega,e⟩
theorem W7(hl:ns.length<=1000)(h3:τ[3]?=some (some (.lst (ns.map D.str))))(h5:τ[5]?=some (some (.bl wr))):mOp Bf (AD 3) (mOp FY (AF BE (AC (mC (.str "v")) AJ)) (AF NQ (AC (AD 5) AJ))) τ μ=some (.lst ((HD ns wr).map D.str),μ):=by
 have hz:sizeLine=16777216:=by decide
 have s3:AD 3 τ μ=some (.lst (ns.map D.str),μ):=Dj h3;have s5:AD 5 τ μ=some (.bl wr,μ):=Dj h5;cases wr with
 |true=>
  have m:FY (.lst [.str "v"]) (.int 1) μ=some (.lst [.str "v"],μ):=rfl;have a:Bf (.lst (ns.map D.str)) (.lst [.str "v"]) μ=some (.lst (ns.map D.str++[.str "v"]),μ):=Cr (by simp;omega);have e:(HD ns true).map D.str=ns.map D.str++[.str "v"]:=by simp[HD]
  rw[e];exact A9 s3 (A9 (x:=.lst [.str "v"]) (y:=.int 1) (μ1:=μ) (μ2:=μ) rfl (Ah (ds:=[.bl true]) (μ1:=μ) (Ad s5 rfl) rfl) m) a
 |false=>
  have m:FY (.lst [.str "v"]) (.int 0) μ=some (.lst [],μ):=rfl;have a:Bf (.lst (ns.map D.str)) (.lst []) μ=some (.lst (ns.map D.str++[]),μ):=Cr (by simp;omega);have e:(HD ns false).map D.str=ns.map D.str++[]:=by simp[HD]
  rw[e];exact A9 s3 (A9 (x:=.lst [.str "v"]) (y:=.int 0) (μ1:=μ) (μ2:=μ) rfl (Ah (ds:=[.bl false]) (μ1:=μ) (Ad s5 rfl) rfl) m) a
theorem bT(hw:WellAt μ w)(hm:0<=many)(hm2:many<=60)(ho:∀x∈own,GoodName x)(hb:∀x∈bxs,GoodName x)(hn:∀x∈ns,GoodName x)(hne:ns≠[])(lo:own.length<=100)(lb:bxs.length<=100)(ln:ns.length<=100):
  ∃(r:Rw) (μ':Mh),LI [.ref w,.lst (own.map D.str),.lst (bxs.map D.str),.lst (ns.map D.str),.int many,.bl wr] μ=some (r.toD,μ')/\r.Drawn own bxs ns wr many/\Upd w μ μ':=by
 obtain⟨r1,μ1,d1,a1,b1,u1⟩:=Cz (b:=8) hw (by decide) (by decide);have w1:=u1.well hw.lt;obtain⟨r2,μ2,d2,a2,b2,u2⟩:=Cz (b:=4) w1 (by decide) (by decide);have w2:=u2.well w1.lt;obtain⟨k0,k1,k2,ka⟩:=YK a2 b2;have ho':∀x∈own,PyData.strOk x=true:=λx hx=>(ho x hx).ok;have hb':∀x∈bxs,PyData.strOk x=true:=λx hx=>(hb x hx).ok;have hs:∀x∈HD ns wr,GoodName x:=by
  intro x hx;rcases AAJ.mp (show x∈ns++(if wr then (["v"]:List Str) else []) from hx) with z|z
  ·exact hn x z
  ·cases wr with
   |true=>
    simp at z;subst z;exact⟨by decide +kernel,by decide +kernel,by unfold B9;decide +kernel⟩
   |false=>simp at z
 have hsl:(HD ns wr).length<=1000:=by
  unfold HD;rw[AAG];cases wr<;>simp<;>omega
 obtain⟨k,k3,k4,kd⟩:∃k:Int,1<=k/\k<=5/\sIf (AR (mOp M7 (AD 4) (mC (.int 9)))) (As (AF Sn (AC (AD 7) (AC (mC (.int 2)) AJ))) (AM 7)) A1 [some (.ref w),some (.lst (own.map D.str)),some (.lst (bxs.map D.str)),some (.lst (ns.map D.str)),some (.int many),some (.bl wr),some (.int r1),some (.int k0),none] μ2=some ((.next,[some (.ref w),some (.lst (own.map D.str)),some (.lst (bxs.map D.str)),some (.lst (ns.map D.str)),some (.int many),some (.bl wr),some (.int r1),some (.int k),none]),μ2):=by
  by_cases c:9<many
  ·refine⟨if 2<k0 then 2 else k0,by split<;>omega,by split<;>omega,?_⟩;exact Gm (μ1:=μ2) (by wtm_at "b") (BX (d:=.int (if 2<k0 then 2 else k0)) (μ1:=μ2) (Ah (ds:=[.int k0,.int 2]) (μ1:=μ2) rfl rfl) rfl)
  ·refine⟨k0,k1,k2,?_⟩;wtm_at "b"
 have kn:((k.toNat:Nat):Int)=k:=by omega
 have X:∀ν:Mh,WellAt ν w->∃(e:Ex) (μ':Mh),Dh 6 [.ref w,.lst ((HD ns wr).map D.str),.int k] ν=some (e.toD,μ')/\e.Ok 5/\(∀x∈e.vars,x∈HD ns wr)/\Upd w ν μ':=by
  intro ν hν;obtain⟨e,μ',q,ok,vs,u⟩:=KQ hs hsl k.toNat 6 k ν kn.symm (by omega) (by omega) hν;exact⟨e,μ',q,ok.mono (by omega),vs,u⟩
 have P:∀(r:Rw) (μ':Mh) (τ':Sl),Upd w μ2 μ'->
   (AQ (sIf (GH (AR (mOp Ez (AD 6) (mC (.int 2)))) (AR (mOp Cj (AD 1) (AF BE AJ)))) (Ar (AF BU (AC (mC (.str "put")) (AC (mOp AU (AD 1) (AF BM (AC (AD 0) (AC (AF Bq (AC (AD 1) AJ)) AJ)))) (AC (AF (Dh 6) (AC (AD 0) (AC (AD 8) (AC (AD 7) AJ)))) AJ))))) A1)
  (AQ (sIf (GH (AR (mOp Ez (AD 6) (mC (.int 4)))) (AR (mOp Cj (AD 2) (AF BE AJ)))) (Ar (AF BU (AC (mC (.str "get")) (AC (mOp AU (AD 3) (AF BM (AC (AD 0) (AC (AF Bq (AC (AD 3) AJ)) AJ)))) (AC (mOp AU (AD 2) (AF BM (AC (AD 0) (AC (AF Bq (AC (AD 2) AJ)) AJ)))) AJ))))) A1)
  (AQ (sIf (AR (mOp Ez (AD 6) (mC (.int 5)))) (Ar (AF BU (AC (mC (.str "let")) (AC (mOp AU (AD 3) (AF BM (AC (AD 0) (AC (AF Bq (AC (AD 3) AJ)) AJ)))) (AC (AF (Dh 6) (AC (AD 0) (AC (AD 8) (AC (AD 7) AJ)))) AJ))))) A1)
  (AQ (sIf (AR (mOp A3 (AD 6) (mC (.int 5)))) (Ar (AF BU (AC (mC (.str "unless")) (AC (AF (Dh 6) (AC (AD 0) (AC (AD 8) (AC (AD 7) AJ)))) (AC (AF BM (AC (AD 0) (AC (mOp Bf (AD 4) (mC (.int 1))) AJ))) AJ))))) A1)
  (AQ (sIf (AR (mOp A3 (AD 6) (mC (.int 6)))) (Ar (AF BU (AC (mC (.str "jump")) (AC (AF BM (AC (AD 0) (AC (mOp Bf (AD 4) (mC (.int 1))) AJ))) AJ)))) A1)
  (Ar (mOp AU (AF BE (AC (AF BU (AC (mC (.str "tell")) (AC (AF (Dh 6) (AC (AD 0) (AC (AD 8) (AC (AD 7) AJ)))) AJ))) (AC (AF BU (AC (mC (.str "done")) AJ)) AJ))) (AF NQ (AC (AD 5) AJ))))))))) [some (.ref w),some (.lst (own.map D.str)),some (.lst (bxs.map D.str)),some (.lst (ns.map D.str)),some (.int many),some (.bl wr),some (.int r1),some (.int k),some (.lst ((HD ns wr).map D.str))] μ2=some ((.rt r.toD,τ'),μ')->
   LI [.ref w,.lst (own.map D.str),.lst (bxs.map D.str),.lst (ns.map D.str),.int many,.bl wr] μ=some (r.toD,μ'):=by
  intro r μ' τ' u q;refine Upd.fin (τ2:=τ') ?_ rfl (u1.trans (u2.trans u)) (Rw.cl r);refine Ak (τ1:=[some (.ref w),some (.lst (own.map D.str)),some (.lst (bxs.map D.str)),some (.lst (ns.map D.str)),some (.int many),some (.bl wr),some (.int r1),none,none]) (μ1:=μ1) (BX (Ah (ds:=[.ref w,.int 8]) (μ1:=μ) rfl d1) rfl) ?_;refine Ak (τ1:=[some (.ref w),some (.lst (own.map D.str)),some (.lst (bxs.map D.str)),some (.lst (ns.map D.str)),some (.int many),some (.bl wr),some (.int r1),some (.int k0),none]) (μ1:=μ2) (BX (d:=.int k0) (μ1:=μ2) (by wtm_at "b") rfl) ?_;refine Ak kd ?_;exact Ak (BX (W7 (by omega) rfl rfl) rfl) q
 have hlen:∀xs:List Str,xs.length<=100->xs≠[]->(0:Int)<((xs.map D.str).length:Nat)/\(((xs.map D.str).length:Nat):Int)<1073741824:=by
  intro xs h1 h2;have:=List.length_pos_iff.mpr h2;simp;omega
 by_cases cA:r1<2/\own≠[]
 ·obtain⟨cA1,cA2⟩:=cA;obtain⟨p1,p2⟩:=hlen own lo cA2;obtain⟨r3,μ3,d3,a3,b3,u3⟩:=Cz w2 p1 p2;obtain⟨bx,hbx,px⟩:=Ky (f:=D.str) (xs:=own) a3 (by simpa using b3);obtain⟨e,μ4,q4,ok,vs,u4⟩:=X μ3 (u3.well w2.lt);refine⟨.put bx e,μ4,P _ μ4 _ (u3.trans u4) (Ij (Gm (Im (CK (A9 (x:=.int r1) (μ1:=μ2) rfl Hv (Sx cA1))) (CK (A9 (x:=.lst (own.map D.str)) (μ1:=μ2) rfl (Ah (ds:=[]) (μ1:=μ2) rfl (Cr (by decide))) (LB ho' cA2)))) (JX (Ah (ds:=[.str "put",.str bx,e.toD]) (μ1:=μ4) (Ad (μ1:=μ2) Hv (Ad (μ1:=μ3) (A9 (x:=.lst (own.map D.str)) (y:=.int r3) (μ1:=μ2) (μ2:=μ3) rfl (Ah (ds:=[.ref w,.int ((own.map D.str).length:Nat)]) (μ1:=μ2) rfl d3) (Fb px)) (Ad (μ1:=μ4) (Ah (ds:=[.ref w,.lst ((HD ns wr).map D.str),.int k]) (μ1:=μ3) rfl q4) rfl))) (F0 (show 3<=sizeLine by decide)))))),⟨⟨ho bx hbx,ok⟩,trivial,vs,hbx⟩,u1.trans (u2.trans (u3.trans u4))⟩
 have tA:∀{τ:Sl},τ[1]?=some (some (.lst (own.map D.str)))->τ[6]?=some (some (.int r1))->GH (AR (mOp Ez (AD 6) (mC (.int 2)))) (AR (mOp Cj (AD 1) (AF BE AJ))) τ μ2=some (false,μ2):=by
  intro τ h1 h6;have s1:AD 1 τ μ2=some (.lst (own.map D.str),μ2):=Dj h1;have s6:AD 6 τ μ2=some (.int r1,μ2):=Dj h6;by_cases c:r1<2
  ·have c0:own=[]:=by rcases Classical.em (own=[]) with z|z;exact z;exact absurd ⟨c,z⟩ cA
   subst c0;exact Im (CK (A9 s6 Hv (Sx c))) (CK (A9 s1 (Ah (ds:=[]) (μ1:=μ2) rfl (Cr (by decide))) NM))
  ·exact Nb (CK (A9 s6 Hv (Vr (by omega))))
 have tA':=tA (τ:=[some (.ref w),some (.lst (own.map D.str)),some (.lst (bxs.map D.str)),some (.lst (ns.map D.str)),some (.int many),some (.bl wr),some (.int r1),some (.int k),some (.lst ((HD ns wr).map D.str))]) rfl rfl;by_cases cB:r1<4/\bxs≠[]
 ·obtain⟨cB1,cB2⟩:=cB;obtain⟨p1,p2⟩:=hlen ns ln hne;obtain⟨r3,μ3,d3,a3,b3,u3⟩:=Cz w2 p1 p2;obtain⟨x,hx,px⟩:=Ky (f:=D.str) (xs:=ns) a3 (by simpa using b3);have w3:=u3.well w2.lt;obtain⟨p3,p4⟩:=hlen bxs lb cB2;obtain⟨r4,μ4,d4,a4,b4,u4⟩:=Cz w3 p3 p4;obtain⟨bx,hbx,pb⟩:=Ky (f:=D.str) (xs:=bxs) a4 (by simpa using b4);refine⟨.get x bx,μ4,P _ μ4 _ (u3.trans u4) (Ak (Dk tA' rfl) (Ij (Gm (Im (CK (A9 (x:=.int r1) (μ1:=μ2) rfl Hv (Sx cB1))) (CK (A9 (x:=.lst (bxs.map D.str)) (μ1:=μ2) rfl (Ah (ds:=[]) (μ1:=μ2) rfl (Cr (by decide))) (LB hb' cB2)))) (JX (Ah (ds:=[.str "get",.str x,.str bx]) (μ1:=μ4) (Ad (μ1:=μ2) Hv (Ad (μ1:=μ3) (A9 (x:=.lst (ns.map D.str)) (y:=.int r3) (μ1:=μ2) (μ2:=μ3) rfl (Ah (ds:=[.ref w,.int ((ns.map D.str).length:Nat)]) (μ1:=μ2) rfl d3) (Fb px)) (Ad (μ1:=μ4) (A9 (x:=.lst (bxs.map D.str)) (y:=.int r4) (μ1:=μ3) (μ2:=μ4) rfl (Ah (ds:=[.ref w,.int ((bxs.map D.str).length:Nat)]) (μ1:=μ3) rfl d4) (Fb pb)) rfl))) (F0 (show 3<=sizeLine by decide))))))),⟨⟨hn x hx,hb bx hbx⟩,trivial,?_,hx,hbx⟩,u1.trans (u2.trans (u3.trans u4))⟩;intro y hy;have:y=x:=by simpa[Rw.vars] using hy
  subst this;exact AAa _ hx
 have tB':GH (AR (mOp Ez (AD 6) (mC (.int 4)))) (AR (mOp Cj (AD 2) (AF BE AJ))) [some (.ref w),some (.lst (own.map D.str)),some (.lst (bxs.map D.str)),some (.lst (ns.map D.str)),some (.int many),some (.bl wr),some (.int r1),some (.int k),some (.lst ((HD ns wr).map D.str))] μ2=some (false,μ2):=by
  by_cases c:r1<4
  ·have c0:bxs=[]:=by rcases Classical.em (bxs=[]) with z|z;exact z;exact absurd ⟨c,z⟩ cB
   subst c0;exact Im (CK (A9 (x:=.int r1) (μ1:=μ2) rfl Hv (Sx c))) (CK (A9 (x:=.lst []) (μ1:=μ2) rfl (Ah (ds:=[]) (μ1:=μ2) rfl (Cr (by decide))) NM))
  ·exact Nb (CK (A9 (x:=.int r1) (μ1:=μ2) rfl Hv (Vr (by omega))))
 by_cases cC:r1<5
 ·obtain⟨p1,p2⟩:=hlen ns ln hne;obtain⟨r3,μ3,d3,a3,b3,u3⟩:=Cz w2 p1 p2;obtain⟨x,hx,px⟩:=Ky (f:=D.str) (xs:=ns) a3 (by simpa using b3);obtain⟨e,μ4,q4,ok,vs,u4⟩:=X μ3 (u3.well w2.lt);refine⟨.letr x e,μ4,P _ μ4 _ (u3.trans u4) (Ak (Dk tA' rfl) (Ak (Dk tB' rfl) (Ij (Gm (CK (A9 (x:=.int r1) (μ1:=μ2) rfl Hv (Sx cC))) (JX (Ah (ds:=[.str "let",.str x,e.toD]) (μ1:=μ4) (Ad (μ1:=μ2) Hv (Ad (μ1:=μ3) (A9 (x:=.lst (ns.map D.str)) (y:=.int r3) (μ1:=μ2) (μ2:=μ3) rfl (Ah (ds:=[.ref w,.int ((ns.map D.str).length:Nat)]) (μ1:=μ2) rfl d3) (Fb px)) (Ad (μ1:=μ4) (Ah (ds:=[.ref w,.lst ((HD ns wr).map D.str),.int k]) (μ1:=μ3) rfl q4) rfl))) (F0 (show 3<=sizeLine by decide)))))))),⟨⟨hn x hx,ok⟩,trivial,?_,hx⟩,u1.trans (u2.trans (u3.trans u4))⟩;intro y hy;rcases AAI.mp (show y∈x::e.vars from hy) with z|z
  ·subst z;exact AAa _ hx
  ·exact vs y z
 by_cases cD:r1=5
 ·obtain⟨e,μ3,q3,ok,vs,u3⟩:=X μ2 w2;obtain⟨r4,μ4,d4,a4,b4,u4⟩:=Cz (b:=many+1) (u3.well w2.lt) (by omega) (by omega);have cC':5<=r1:=by omega
  exact⟨.unless e r4,μ4,P _ μ4 _ (u3.trans u4) (by simp only[Rw.toD];exact Ak (Dk tA' rfl) (Ak (Dk tB' rfl) (by wtm_at "b"))),⟨⟨ok,a4,by omega⟩,trivial,vs,trivial⟩,u1.trans (u2.trans (u3.trans u4))⟩
 by_cases cE:r1=6
 ·obtain⟨r4,μ4,d4,a4,b4,u4⟩:=Cz (b:=many+1) w2 (by omega) (by omega);have cC':5<=r1:=by omega
  exact⟨.jump r4,μ4,P _ μ4 _ u4 (by simp only[Rw.toD];exact Ak (Dk tA' rfl) (Ak (Dk tB' rfl) (by wtm_at "b"))),⟨⟨a4,by omega⟩,trivial,by simp[Rw.vars],trivial⟩,u1.trans (u2.trans u4)⟩
 ·obtain⟨e,μ3,q3,ok,vs,u3⟩:=X μ2 w2;have cC':5<=r1:=by omega
  cases wr with
  |true=>
   have ii:NQ [.bl true] μ3=some (.int 1,μ3):=rfl;exact⟨.done,μ3,P _ μ3 _ u3 (by simp only[Rw.toD];exact Ak (Dk tA' rfl) (Ak (Dk tB' rfl) (by wtm_at "b"))),⟨trivial,rfl,by simp[Rw.vars],trivial⟩,u1.trans (u2.trans u3)⟩
  |false=>
   have ii:NQ [.bl false] μ3=some (.int 0,μ3):=rfl;exact⟨.tell e,μ3,P _ μ3 _ u3 (by simp only[Rw.toD];exact Ak (Dk tA' rfl) (Ak (Dk tB' rfl) (by wtm_at "b"))),⟨ok,rfl,vs,trivial⟩,u1.trans (u2.trans u3)⟩
end
end K1
set_option maxHeartbeats 4000000
namespace K1
open PySem L2 Mi
section
variable{μ μ1 μ2 μ' g:Mh}{w:Nat}{l:Int}{d:D}{x y:Str}{τ1 τ2:Sl}
theorem WellAt.app(h:WellAt μ w):WellAt (μ++g) w:=by
 have hl:=h.lt;obtain⟨a,m,c,h,ha⟩:=h;exact⟨a,m,c,by rw[AAS hl];exact h,ha⟩
theorem Cp(hw:WellAt μ w)(hb:0<b)(hb2:b<1073741824):∃r μ',BM [.ref w,.int b] (μ++g)=some (.int r,μ'++g)/\0<=r/\r<b/\Upd w μ μ':=by
 obtain⟨r,ν,e,h1,h2,u⟩:=Cz (hw.app (g:=g)) hb hb2;obtain⟨μ',u',rfl⟩:=u.app hw.lt;exact⟨r,μ',e,h1,h2,u'⟩
theorem Y8:∀ns:List Int,∃c:Int,Hu [.scr ns,.int 0] μ=some (.int c,μ)
 |[]=>by
  have l:Bq [.scr []] μ=some (.int 0,μ):=rfl;exact⟨0,BL (g:=[]) (τ2:=_) (by rw[AAY];unfold Ho;wtm_at "b") rfl (by unfold Cl;trivial)⟩
 |c::ns=>by
  have l:Bq [.scr (c::ns)] μ=some (.int ((((c::ns).map D.int).length:Nat):Int),μ):=rfl;have h0:(0:Int)<((((c::ns).map D.int).length:Nat):Int):=by simp
  have i:AU (.scr (c::ns)) (.int 0) μ=some (.int c,μ):=by
   show bnd (Bl (.scr (c::ns))) (λds=>ixD ds 0) μ=_;rw[AO (show Bl (.scr (c::ns)) μ=some ((c::ns).map D.int,μ) from rfl)];unfold ixD;rw[show atI ((c::ns).map D.int) 0=some (.int c) from by
    unfold atI ixN;rw[if_pos (by decide),if_pos h0];rfl]
   rfl
  exact⟨c,BL (g:=[]) (τ2:=_) (by rw[AAY];unfold Ho;wtm_at "b") rfl (by unfold Cl;trivial)⟩
theorem cv:U5 (.int 10) (.int 9) μ=some (.int 1000000000,μ):=by
 show (if (0:Int)<=9/\(9:Int)<=1000000/\(10:Int).natAbs<2 ^ 64 then some (D.int ((10:Int) ^ (9:Int).toNat),μ) else none)=_;rw[if_pos (by decide)];rfl
theorem Y6:∃a m:Int,0<=a/\NY [.int c] μ=some (.ref μ.length,μ++[.lst [.int a,.int m,.int 0]]):=by
 refine⟨if c-1000000000 > 0 then c-1000000000 else 0,c % 2147483647,by split<;>omega,?_⟩;have p:=cv (μ:=μ);have mx:Xu [.int 0,.int (c-1000000000)] μ=some (.int (if c-1000000000 > 0 then c-1000000000 else 0),μ):=rfl;have e:NJ (BQ 1 [.int c]) μ=some ((.rt (.ref μ.length),BQ 1 [.int c]),μ++[.lst [.int (if c-1000000000 > 0 then c-1000000000 else 0),.int (c % 2147483647),.int 0]]):=by
  unfold NJ;wtm_at "b"
 exact Ff (hw:=.all) e rfl (.inr ⟨_,rfl⟩) ⟨⟨[],by simp[Jw]⟩,by simp[Jw],λj o q=>by
  have q:(μ++[MO.lst [.int (if c-1000000000 > 0 then c-1000000000 else 0),.int (c % 2147483647),.int 0]])[j]?=some o:=q;by_cases hj:j<μ.length
  ·left;rw[AAS hj] at q;exact q
  ·right;rw[AAR (by omega)] at q;have:j-μ.length=0:=by
    have:=(AAT.mp q).1;simp at this;omega
   rw[this] at q;cases q;exact WK,.inl ⟨rfl,by show Cl _ (D.ref μ.length);unfold Cl;simp[Jw]⟩⟩
theorem Py:∀k:Fin 26,(match (Str.cps "abcdefghijklmnopqrstuvwxyz").toList[k.val]? with|some c=>decide (97<=c/\c<123)|none=>false)=true:=by decide +kernel
theorem YU:(Str.cps "abcdefghijklmnopqrstuvwxyz").toList.length=26:=by decide +kernel
theorem Te:Str.length "abcdefghijklmnopqrstuvwxyz" <= sizeLine:=by decide +kernel
theorem Sv(h1:0<=r)(h2:r<26):∃c,97<=c/\c<123/\∀μ:Mh,AU (.str "abcdefghijklmnopqrstuvwxyz") (.int r) μ=some (.str ⟨#[c]⟩,μ):=by
 obtain⟨k,rfl⟩:=Int.eq_ofNat_of_zero_le h1;have hk:k<26:=by omega
 have q:=Py ⟨k,hk⟩;dsimp only at q;cases hc:(Str.cps "abcdefghijklmnopqrstuvwxyz").toList[k]? with
 |none=>rw[hc] at q;cases q
 |some c=>
  rw[hc] at q;have q:=of_decide_eq_true q;refine⟨c,q.1,q.2,λμ=>?_⟩;show (if Str.length "abcdefghijklmnopqrstuvwxyz" <= sizeLine then (atI (Str.cps "abcdefghijklmnopqrstuvwxyz").toList (k:Int)).map (λc=>(D.str ⟨#[c]⟩,μ)) else none)=_;rw[if_pos Te];have:atI (Str.cps "abcdefghijklmnopqrstuvwxyz").toList (k:Int)=some c:=by
   unfold atI ixN;rw[if_pos h1,if_pos (by rw[YU];exact h2)];exact hc
  rw[this];rfl
theorem ME{os:D}:∀(ds:List D) (s:Str) (o:Option D) (μ:Mh),WellAt μ w->B9 s->s.length+ds.length<=8->∃s' o' μ',Ba (AM 3) (As (mOp Bf (AD 2) (mOp AU (mC (.str "abcdefghijklmnopqrstuvwxyz")) (AF BM (AC (AD 0) (AC (mC (.int 26)) AJ))))) (AM 2)) ds [some (.ref w),some os,some (.str s),o] μ=some ((.next,[some (.ref w),some os,some (.str s'),o']),μ')/\B9 s'/\s'.length=s.length+ds.length/\Upd w μ μ'
 |[],s,o,μ,hw,hs,hl=>⟨s,o,μ,rfl,hs,by simp,hw.refl⟩
 |d::ds,s,o,μ,hw,hs,hl=>by
  obtain⟨r,μ1,e1,a1,b1,u1⟩:=Cz hw (b:=26) (by decide) (by decide);obtain⟨c,c1,c2,ei⟩:=Sv a1 b1;have w1:=u1.well hw.lt;have hz:sizeLine=16777216:=by decide
  have hl2:s.length+(ds.length+1)<=8:=by simpa using hl
  have cl:Str.length ⟨#[c]⟩=1:=rfl;have sl:(s++(⟨#[c]⟩:Str)).length=s.length+1:=by
   show (s.cps++#[c]).size=s.cps.size+1;simp
  have sa:B9 (s++(⟨#[c]⟩:Str)):=by
   intro z hz;have hz:z∈(s.cps++#[c]).toList:=hz;simp at hz;rcases hz with hz|hz
   ·exact hs z (by simpa using hz)
   ·subst hz;exact⟨c1,c2⟩
  have ad:Bf (.str s) (.str ⟨#[c]⟩) μ1=some (.str (s++⟨#[c]⟩),μ1):=by
   show bnd (lim (s.length+Str.length ⟨#[c]⟩)) _ μ1=_;rw[AO (show lim (s.length+Str.length ⟨#[c]⟩) μ1=some ((),μ1) from by unfold lim;rw[if_pos (by rw[cl];omega)])];rfl
  obtain⟨s',o',μ',q,h1,h2,u⟩:=ME (os:=os) ds (s++⟨#[c]⟩) (some d) μ1 w1 sa (by rw[sl];omega);refine⟨s',o',μ',CO (τ1:=[some (.ref w),some os,some (.str s),some d]) (τ2:=[some (.ref w),some os,some (.str (s++⟨#[c]⟩)),some d]) (μ1:=μ) (μ2:=μ1) rfl (BX (d:=.str (s++⟨#[c]⟩)) (μ1:=μ1) (A9 (x:=.str s) (y:=.str ⟨#[c]⟩) (μ1:=μ) (μ2:=μ1) rfl (A9 (x:=.str "abcdefghijklmnopqrstuvwxyz") (y:=.int r) (μ1:=μ) (μ2:=μ1) rfl (Ah (ds:=[.ref w,.int 26]) (μ1:=μ) rfl e1) (ei μ1)) ad) rfl) q,h1,?_,u1.trans u⟩;rw[h2,sl,AAH];omega
theorem dJ:GoodName "abcdefgh" := ⟨by decide +kernel,by decide +kernel,by unfold B9;decide +kernel⟩
theorem KS{os:D}{xs:List Str}(hw:WellAt μ w)(hin:∀(x:Str) ν,Upd w μ ν->Co false (.str x) os ν=some (.bl (decide (x∈xs)),ν))(hx:("abcdefgh" : Str)∉xs):∃x μ',DR [.ref w,os] μ=some (.str x,μ')/\GoodName x/\x∉xs/\Upd w μ μ':=by
 obtain⟨r,μ1,e1,a1,b1,u1⟩:=Cz hw (b:=8) (by decide) (by decide);have rg:OJ [.int (1+r)] μ1=some (GX 0 (1+r),μ1):=by
  show (if -(2 ^ 62)<=1+r/\1+r<2 ^ 62 then some (GX 0 (1+r),μ1) else none)=_;rw[if_pos (by omega)]
 have ln:(GX 0 (1+r)).length=(1+r).toNat:=by simp[GX]
 have h0:B9 "" := by unfold B9;decide +kernel
 have l0:Str.length "" = 0:=by decide +kernel
 obtain⟨s,o,μ2,q,hs,sl,u2⟩:=ME (os:=os) (GX 0 (1+r)) "" none μ1 (u1.well hw.lt) h0 (by rw[ln,l0];omega);have u:=u1.trans u2;have gs:GoodName s:=⟨by rw[sl,ln,l0];omega,by rw[sl,ln,l0];omega,hs⟩;have P:∀(x:Str),(sIf (AR (mOp (Co false) (AD 2) (AD 1))) (As (mC (.str "abcdefgh")) (AM 2)) A1 [some (.ref w),some os,some (.str s),o] μ2=some ((.next,[some (.ref w),some os,some (.str x),o]),μ2))->DR [.ref w,os] μ=some (.str x,μ2):=by
  intro x c;refine Upd.fin (τ2:=[some (.ref w),some os,some (.str x),o]) ?_ rfl u (by unfold Cl;trivial);refine Ak (τ1:=[some (.ref w),some os,some (.str ""),none]) (μ1:=μ) rfl ?_;refine Ak (FN (ds:=GX 0 (1+r)) (μ1:=μ1) ?_ q) ?_
  ·show bnd _ OJ μ=_;rw[AO (Ad (x:=.int (1+r)) (ds:=[]) (μ1:=μ1) (μ2:=μ1) (A9 (x:=.int 1) (y:=.int r) (μ1:=μ) (μ2:=μ1) rfl (Ah (ds:=[.ref w,.int 8]) (μ1:=μ) rfl e1) rfl) rfl),rg]
  ·exact Ak c (JX rfl)
 by_cases c:s∈xs
 ·refine⟨"abcdefgh",μ2,P _ (Gm (μ1:=μ2) (CK (A9 (x:=.str s) (y:=os) (μ1:=μ2) (μ2:=μ2) rfl rfl ?_)) rfl),dJ,hx,u⟩;rw[hin s μ2 u,AAO c]
 ·refine⟨s,μ2,P _ (Dk (μ1:=μ2) (CK (A9 (x:=.str s) (y:=os) (μ1:=μ2) (μ2:=μ2) rfl rfl ?_)) rfl),gs,c,u⟩;rw[hin s μ2 u,AAN c]
end
end K1
set_option maxHeartbeats 4000000
namespace K1
open PySem L2 Mi
section
variable{μ μ1 μ2 μ' g:Mh}{n w:Nat}{d:D}{x y:Str}{τ τ1:Sl}{ds es:List D}
theorem JP(h:μ[n]?=some (.lst ds)):Dz (.ref n) μ=some ((),μ):=by
 unfold Dz;rw[AO (show Bs (.ref n) μ=some (ds,μ) from by unfold Bs;dsimp only;rw[h])];rfl
theorem Yb(h:μ[n]?=some (.lst ds))(hk:k ds=some (d,es)):FI n k μ=some (d,μ.set n (.lst es)):=by
 unfold FI;rw[h];show (k ds).map _=_;rw[hk];rfl
theorem RY(h:μ[n]?=some (.lst ds))(hl:ds.length<sizeLine):FQ (.ref n) [d] μ=some (.non,μ.set n (.lst (ds++[d]))):=Yb h (by rw[if_pos hl])
theorem RU(h:μ[n]?=some (.lst ds))(h0:0<=i)(h1:i<2 ^ 62)(hl:ds.length<sizeLine):Oh (.ref n) [.int i,d] μ=some (.non,μ.set n (.lst (ds.take i.toNat++d::ds.drop i.toNat))):=Yb h (by rw[if_pos ⟨h0,h1,hl⟩])
theorem LM(k:Nat)(h:k<=ds.length):FO ds (some (k:Int)) none=ds.drop k:=by
 unfold FO;rw[HT.M4,Nat.min_eq_left h];show (ds.drop k).take (ds.length-k)=_;exact List.take_of_length_le (by simp)
theorem LL(k:Nat):FO ds none (some (k:Int))=ds.take k:=by
 unfold FO;rw[HT.M4];show (ds.drop 0).take (min k ds.length-0)=_;rw[List.drop_zero,Nat.sub_zero];by_cases h:k<=ds.length
 ·rw[Nat.min_eq_left h]
 ·rw[Nat.min_eq_right (by omega),List.take_length,List.take_of_length_le (by omega)]
theorem cr:Pi lo hi (.lst ds) μ=some (.lst (FO ds lo hi),μ):=rfl
theorem Vp(h:μ[n]?=some (.lst ds)):Pi lo hi (.ref n) μ=some (.lst (FO ds lo hi),μ):=by
 show bnd (Bs (.ref n)) (λds=>Mi.ret (D.lst (FO ds lo hi))) μ=_;rw[AO (show Bs (.ref n) μ=some (ds,μ) from by unfold Bs;dsimp only;rw[h])];rfl
theorem c5{xs:List Str}(h:μ[n]?=some (.lst (xs.map D.str))):Co false (.str x) (.ref n) μ=some (.bl (decide (x∈xs)),μ):=by
 show HS false (.str x) (.ref n) μ=_;rw[G5 (ds:=[]) (xs:=xs) (show Bl (.ref n) μ=some (xs.map D.str,μ) from by unfold Bl;show Bs (.ref n) μ=_;unfold Bs;dsimp only;rw[h])];rfl
theorem c6{xs:List Str}:Co false (.str x) (.lst (xs.map D.str)) μ=some (.bl (decide (x∈xs)),μ):=by
 show HS false (.str x) (.lst (xs.map D.str)) μ=_;rw[G5 (ds:=[]) (xs:=xs) rfl];rfl
theorem Vo(h1:ma τ μ=some (.ref n,μ))(h:μ[n]?=some (.lst ds)):Ic ma τ μ=some (ds,μ):=by
 unfold Ic;rw[AO h1];show (match μ[n]? with|some (.lst ds)=>some (ds,μ)|_=>none)=_;rw[h]
theorem Vn(h:μ[n]?=some (.lst ds)):C8 [.ref n] μ=some (.tup ds,μ):=by
 show bnd (Bs (.ref n)) (λds=>Mi.ret (D.tup ds)) μ=_;rw[AO (show Bs (.ref n) μ=some (ds,μ) from by unfold Bs;dsimp only;rw[h])];rfl
theorem aR:C8 [.lst ds] μ=some (.tup ds,μ):=rfl
theorem ZS(h:0<=m):GX 0 m=(List.range' 0 m.toNat).map λj:Nat=>D.int j:=by
 unfold GX;rw[Int.sub_zero,List.range_eq_range'];apply List.map_congr_left;intro a _;rw[Int.zero_add]
theorem Yr(h:ma τ μ=some ([.int m],μ1))(h0:0<=m)(h1:m<=1000):Ig ma τ μ=some ((List.range' 0 m.toNat).map (λj:Nat=>D.int j),μ1):=by
 unfold Ig;rw[AO h,←ZS h0];show (if -(2 ^ 62)<=m/\m<2 ^ 62 then some (GX 0 m,μ1) else none)=_;rw[if_pos (by omega)]
theorem at1(h:μ.length=L):(μ++(a::b::e))[L+1]?=some b:=by
 subst h;rw[AAR (by omega)];simp
theorem at2(h:μ.length=L):(μ++(a::b::c::e))[L+2]?=some c:=by
 subst h;rw[AAR (by omega)];simp
theorem eD(h:μ.length=L):(μ++(a::b::e)).set (L+1) o=μ++(a::o::e):=by
 subst h;rw[AAe _ _ (by omega)];simp
theorem eC(h:μ.length=L):(μ++(a::b::c::e)).set (L+2) o=μ++(a::b::o::e):=by
 subst h;rw[AAe _ _ (by omega)];simp
noncomputable def base11:List Str:=["w", "r", "put", "makes", "box", "hand", "z", "not", "v", "safe", "x"]
noncomputable def Aq(x:Str):List Str:=base11.take 6++x::base11.drop 6
theorem QI:base11.Nodup:=by decide +kernel
theorem Tc:∀y∈base11,GoodName y:=by
 have h:∀y∈base11,(1<=y.length/\y.length<=8)/\B9 y:=by unfold B9;decide +kernel
 exact λy hy=>⟨(h y hy).1.1,(h y hy).1.2,(h y hy).2⟩
theorem SQ:(Aq x).Perm (x::base11):=by
 unfold Aq;refine List.perm_middle.trans ?_;rw[List.take_append_drop]
structure R7(sm:List Str):Prop where
 len:sm.length=12
 nd:sm.Nodup
 good:∀y∈sm,GoodName y
theorem Xs(h:x∉base11)(hx:GoodName x)(p:sm.Perm (Aq x)):R7 sm:=by
 have p:=p.trans SQ;refine⟨by rw[p.length_eq];rfl,p.nodup_iff.mpr (List.nodup_cons.mpr ⟨h,QI⟩),λy hy=>?_⟩;rcases AAI.mp (p.mem_iff.mp hy) with z|z
 ·rw[z];exact hx
 ·exact Tc y z
theorem Uo{sm:List Str}(t:Nat):(sm.drop t++sm.take t).Perm sm:=by
 refine List.perm_append_comm.trans ?_;rw[List.take_append_drop]
theorem Pr(hw:WellAt μ w):∃(sm:List Str) (c:Nat) (r:Int) (junk:MO) (μ':Mh),R7 sm/\2<=c/\c<=4/\Upd w μ μ' /\
  (∀{rest:Sl->M (Fl×Sl)} {z:Fl×Sl} {μz:Mh},rest [some (.ref w),some (.lst (sm.map D.str)),some (.int r),some (.lst ((sm.take c).map D.str)),none,none,none,none,none,none,none,none,none,none,none] (μ'++[junk])=some (z,μz)->
  (AQ (As (AF Dq (AC (mC (.str "w")) (AC (mC (.str "r")) (AC (mC (.str "put")) (AC (mC (.str "makes")) (AC (mC (.str "box")) (AC (mC (.str "hand")) (AC (mC (.str "z")) (AC (mC (.str "not")) (AC (mC (.str "v")) (AC (mC (.str "safe")) (AC (mC (.str "x")) AJ)))))))))))) (AM 1))
  (AQ (Ag (BB Oh (AD 1) (AC (mC (.int 6)) (AC (AF DR (AC (AD 0) (AC (AD 1) AJ))) AJ))))
  (AQ (As (AF BM (AC (AD 0) (AC (mC (.int 12)) AJ))) (AM 2))
  (AQ (As (mOp Bf (mSl (AD 1) (CQ (AD 2)) Bp) (mSl (AD 1) Bp (CQ (AD 2)))) (AM 1))
  (AQ (As (mSl (AD 1) Bp (CQ (mOp Bf (mC (.int 2)) (AF BM (AC (AD 0) (AC (mC (.int 3)) AJ)))))) (AM 3)) rest))))) (BQ 15 [.ref w]) μ=some (z,μz)):=by
 have hz:sizeLine=16777216:=by decide
 have hlt:=hw.lt;have w1:=hw.app (g:=[.lst (base11.map D.str)]);obtain⟨x,ν2,q2,gx,nx,v2⟩:=KS (os:=.ref μ.length) (xs:=base11) w1 (λy ν u=>c5 (by
  rw[u.other (by omega)];exact List.getElem?_concat_length)) (by decide +kernel)
 obtain⟨μ2,u2,rfl⟩:=v2.app hlt;have len2:=u2.len;have hb:(base11.map D.str).length=11:=rfl;have ins:Oh (.ref μ.length) [.int 6,.str x] (μ2++[.lst (base11.map D.str)])=some (.non,μ2++[.lst ((Aq x).map D.str)]):=by
  rw[RU (ds:=base11.map D.str) (by rw[←len2];exact List.getElem?_concat_length) (by decide) (by decide) (by rw[hb];omega),←len2];simp[Aq]
 have w2:=u2.well hlt;obtain⟨r3,μ3,e3,a3,b3,u3⟩:=Cp (g:=[.lst ((Aq x).map D.str)]) (b:=12) w2 (by decide) (by decide);have len3:μ3.length=μ.length:=by rw[u3.len,len2]
 have w3:=u3.well w2.lt;obtain⟨t,rfl⟩:=Int.eq_ofNat_of_zero_le a3;have N:=Xs nx gx (Uo (sm:=Aq x) t);have l12:(Aq x).length=12:=rfl;have at0:(μ3++[MO.lst ((Aq x).map D.str)])[μ.length]?=some (.lst ((Aq x).map D.str)):=by rw[←len3];exact List.getElem?_concat_length
 have ad:Bf (.lst (((Aq x).map D.str).drop t)) (.lst (((Aq x).map D.str).take t)) (μ3++[.lst ((Aq x).map D.str)])=some (.lst ((((Aq x).drop t++(Aq x).take t)).map D.str),μ3++[.lst ((Aq x).map D.str)]):=by
  have e:((Aq x).map D.str).drop t++((Aq x).map D.str).take t=(((Aq x).drop t++(Aq x).take t)).map D.str:=by simp[List.map_drop,List.map_take]
  show BE (((Aq x).map D.str).drop t++((Aq x).map D.str).take t) _=_;rw[e];exact Cr (by rw[AAF,N.len];omega)
 obtain⟨r4,μ4,e4,a4,b4,u4⟩:=Cp (g:=[.lst ((Aq x).map D.str)]) (b:=3) w3 (by decide) (by decide);obtain⟨c,rfl⟩:=Int.eq_ofNat_of_zero_le a4;refine⟨(Aq x).drop t++(Aq x).take t,2+c,t,.lst ((Aq x).map D.str),μ4,N,by omega,by omega,u2.trans (u3.trans u4),?_⟩;intro rest z μz h;refine Ak (τ1:=[some (.ref w),some (.ref μ.length),none,none,none,none,none,none,none,none,none,none,none,none,none]) (μ1:=μ++[.lst (base11.map D.str)]) rfl ?_;refine Ak (τ1:=[some (.ref w),some (.ref μ.length),none,none,none,none,none,none,none,none,none,none,none,none,none]) (μ1:=μ2++[.lst ((Aq x).map D.str)]) (G6 (Ik (x:=.ref μ.length) (μ1:=μ++[.lst (base11.map D.str)]) rfl RV (Ad (x:=.int 6) (ds:=[.str x]) rfl (Ad (μ1:=μ2++[.lst (base11.map D.str)]) (Ah (ds:=[.ref w,.ref μ.length]) rfl q2) rfl)) ins)) ?_;refine Ak (τ1:=[some (.ref w),some (.ref μ.length),some (.int t),none,none,none,none,none,none,none,none,none,none,none,none]) (μ1:=μ3++[.lst ((Aq x).map D.str)]) (BX (Ah (ds:=[.ref w,.int 12]) rfl e3) rfl) ?_;refine Ak (τ1:=[some (.ref w),some (.lst (((Aq x).drop t++(Aq x).take t).map D.str)),some (.int t),none,none,none,none,none,none,none,none,none,none,none,none]) (μ1:=μ3++[.lst ((Aq x).map D.str)]) (BX (A9 (Oo (x:=.ref μ.length) (a:=some (t:Int)) (b:=none) (μ1:=μ3++[.lst ((Aq x).map D.str)]) (μ2:=μ3++[.lst ((Aq x).map D.str)]) (μ3:=μ3++[.lst ((Aq x).map D.str)]) rfl rfl rfl (by rw[Vp at0,LM t (by rw[AAF,l12];omega)])) (Oo (x:=.ref μ.length) (a:=none) (b:=some (t:Int)) (μ1:=μ3++[.lst ((Aq x).map D.str)]) (μ2:=μ3++[.lst ((Aq x).map D.str)]) (μ3:=μ3++[.lst ((Aq x).map D.str)]) rfl rfl rfl (by rw[Vp at0,LL t])) ad) rfl) ?_;refine Ak (τ1:=[some (.ref w),some (.lst (((Aq x).drop t++(Aq x).take t).map D.str)),some (.int t),some (.lst ((((Aq x).drop t++(Aq x).take t).take (2+c)).map D.str)),none,none,none,none,none,none,none,none,none,none,none]) (μ1:=μ4++[.lst ((Aq x).map D.str)]) (BX (Oo (x:=.lst (((Aq x).drop t++(Aq x).take t).map D.str)) (a:=none) (b:=some ((2+c:Nat):Int)) (μ1:=μ3++[.lst ((Aq x).map D.str)]) (μ2:=μ3++[.lst ((Aq x).map D.str)]) (μ3:=μ4++[.lst ((Aq x).map D.str)]) rfl rfl (Na (A9 (x:=.int 2) (y:=.int c) (μ1:=μ3++[.lst ((Aq x).map D.str)]) (μ2:=μ4++[.lst ((Aq x).map D.str)]) rfl (Ah (ds:=[.ref w,.int 3]) rfl e4) (by rw[Oc];rfl))) (by rw[cr,LL,List.map_take])) rfl) h
end
end K1
set_option maxHeartbeats 4000000
namespace K1
open PySem L2 Mi
section
variable{μ μ1 μ2 μ' g:Mh}{n w:Nat}{d:D}{x y:Str}{τ1:Sl}{ds:List D}
theorem Rc(h1:0<=i)(h2:i<3):∃k∈(["safe", "steady", "whole"]:List Str),atI [D.str "safe",.str "steady",.str "whole"] i=some (.str k):=
 Ky (f:=D.str) (xs:=["safe", "steady", "whole"]) h1 (by show i<3;exact h2)
theorem ZW{sm:List Str}(h:sm.length=12){k:Nat}(hk:k<12):∃x,sm.reverse[k]?=some x/\x∈sm/\atI (sm.map D.str) (11-(k:Int))=some (.str x):=by
 have hk':11-k<sm.length:=by omega
 refine⟨sm[11-k],?_,List.getElem_mem hk',?_⟩
 ·rw[List.getElem?_reverse (by omega)];rw[show sm.length-1-k=11-k from by omega];exact AAr hk'
 ·unfold atI ixN;rw[if_pos (by omega),if_pos (by rw[AAF];omega)];show (sm.map D.str)[(11-(k:Int)).toNat]?=_;rw[show (11-(k:Int)).toNat=11-k from by omega,AAV,AAr hk'];rfl
noncomputable abbrev eY:Sl->M (Fl×Sl):=(AQ (As (mOp Bf (mC (.int 2)) (AF BM (AC (AD 0) (AC (mC (.int 9)) AJ)))) (AM 6))
  (AQ (As (mOp AU (AF BE (AC (mC (.str "safe")) (AC (mC (.str "steady")) (AC (mC (.str "whole")) AJ)))) (AF BM (AC (AD 0) (AC (mC (.int 3)) AJ)))) (AM 7))
  (Ag (BB FQ (AD 4) (AC (AF BU (AC (mOp AU (AD 1) (mOp Em (mC (.int 11)) (AD 5))) (AC (AD 7) (AC (AD 6) (AC (AF BM (AC (AD 0) (AC (AD 6) AJ))) (AC (mOp AU (AD 3) (AF BM (AC (AD 0) (AC (AF Bq (AC (AD 3) AJ)) AJ)))) AJ)))))) AJ)))))
structure Nt(sm ns:List Str)(k:Nat)(bs:List Bx):Prop where
 nms:bs.map Bx.nm=sm.reverse.take k
 wor:∀b∈bs,Fj b.kd b.sz b.bg
 wri:∀b∈bs,b.wr∈ns
theorem Oy{sm ns:List Str}{junk:MO}{L:Nat}(hsm:sm.length=12)(hn:ns≠[])(hnl:ns.length<=4):∀(rest k:Nat) (bs:List Bx) (o5 o6 o7:Option D) (μ:Mh),WellAt μ w->μ.length=L->k+rest<=6->Nt sm ns k bs->∃(bs':List Bx) (o5' o6' o7':Option D) (μ':Mh),
  Ba (AM 5) eY ((List.range' k rest).map λj:Nat=>D.int j) [some (.ref w),some (.lst (sm.map D.str)),o2,some (.lst (ns.map D.str)),some (.ref (L+1)),o5,o6,o7,none,none,none,none,none,none,none] (μ++[junk,.lst (bs.map Bx.toD)]) =
   some ((.next,[some (.ref w),some (.lst (sm.map D.str)),o2,some (.lst (ns.map D.str)),some (.ref (L+1)),o5',o6',o7',none,none,none,none,none,none,none]),μ'++[junk,.lst (bs'.map Bx.toD)])/\Upd w μ μ'/\Nt sm ns (k+rest) bs'
 |0,k,bs,o5,o6,o7,μ,hw,hL,hk,ok=>⟨bs,o5,o6,o7,μ,rfl,hw.refl,ok⟩
 |rest+1,k,bs,o5,o6,o7,μ,hw,hL,hk,ok=>by
  have hz:sizeLine=16777216:=by decide
  obtain⟨r1,μ1,e1,a1,b1,u1⟩:=Cp (g:=[junk,.lst (bs.map Bx.toD)]) (b:=9) hw (by decide) (by decide);have w1:=u1.well hw.lt;obtain⟨r2,μ2,e2,a2,b2,u2⟩:=Cp (g:=[junk,.lst (bs.map Bx.toD)]) (b:=3) w1 (by decide) (by decide);have w2:=u2.well w1.lt;obtain⟨kd,hkd,ek⟩:=Rc a2 b2;obtain⟨x,ex,hx,ei⟩:=ZW (sm:=sm) (k:=k) hsm (by omega);obtain⟨r3,μ3,e3,a3,b3,u3⟩:=Cp (g:=[junk,.lst (bs.map Bx.toD)]) (b:=2+r1) w2 (by omega) (by omega);have w3:=u3.well w2.lt;have nl:0<ns.length:=List.length_pos_iff.mpr hn;have hln:(((ns.map D.str).length:Nat):Int)=ns.length:=by simp
  obtain⟨r4,μ4,e4,a4,b4,u4⟩:=Cp (g:=[junk,.lst (bs.map Bx.toD)]) (b:=(((ns.map D.str).length:Nat):Int)) w3 (by omega) (by omega);have w4:=u4.well w3.lt;obtain⟨wr,hwr,ew⟩:=Ky (f:=D.str) (xs:=ns) a4 (by omega);have len4:μ4.length=L:=by rw[u4.len,u3.len,u2.len,u1.len,hL]
  have lbs:bs.length<=6:=by
   have:=congrArg List.length ok.nms;rw[AAF,List.length_take] at this;omega
  have ok':Nt sm ns (k+1) (bs++[⟨x,kd,2+r1,r3,wr⟩]):=by
   refine⟨?_,?_,?_⟩
   ·rw[AAX,ok.nms,List.take_add_one,ex];rfl
   ·intro b hb;rcases AAJ.mp hb with z|z
    ·exact ok.wor b z
    ·simp at z;subst z;exact⟨hkd,by show 2<=2+r1;omega,by show 2+r1<=10;omega,a3,by show r3<=2+r1-1;omega⟩
   ·intro b hb;rcases AAJ.mp hb with z|z
    ·exact ok.wri b z
    ·simp at z;subst z;exact hwr
  obtain⟨bs',o5',o6',o7',μ',q,u,okk⟩:=Oy (junk:=junk) (o2:=o2) hsm hn hnl rest (k+1) (bs++[⟨x,kd,2+r1,r3,wr⟩]) (some (.int k)) (some (.int (2+r1))) (some (.str kd)) μ4 w4 len4 (by omega) ok';refine⟨bs',o5',o6',o7',μ',?_,u1.trans (u2.trans (u3.trans (u4.trans u))),by rw[show k+(rest+1)=k+1+rest from by omega];exact okk⟩;rw[List.range'_succ,AAW];have ap:=RY (μ:=μ4++[junk,.lst (bs.map Bx.toD)]) (n:=L+1) (d:=(Bx.mk x kd (2+r1) r3 wr).toD) (at1 len4) (by rw[AAF];omega);rw[eD len4] at ap;have eb:bs.map Bx.toD++[(Bx.mk x kd (2+r1) r3 wr).toD]=(bs++[(⟨x,kd,2+r1,r3,wr⟩:Bx)]).map Bx.toD:=by simp
  rw[eb] at ap;refine CO (τ1:=[some (.ref w),some (.lst (sm.map D.str)),o2,some (.lst (ns.map D.str)),some (.ref (L+1)),some (.int k),o6,o7,none,none,none,none,none,none,none]) (μ1:=μ++[junk,.lst (bs.map Bx.toD)]) rfl ?_ q;refine Ak (τ1:=[some (.ref w),some (.lst (sm.map D.str)),o2,some (.lst (ns.map D.str)),some (.ref (L+1)),some (.int k),some (.int (2+r1)),o7,none,none,none,none,none,none,none]) (μ1:=μ1++[junk,.lst (bs.map Bx.toD)]) (BX (A9 (x:=.int 2) (y:=.int r1) rfl (Ah (ds:=[.ref w,.int 9]) rfl e1) Oc) rfl) ?_;refine Ak (τ1:=[some (.ref w),some (.lst (sm.map D.str)),o2,some (.lst (ns.map D.str)),some (.ref (L+1)),some (.int k),some (.int (2+r1)),some (.str kd),none,none,none,none,none,none,none]) (μ1:=μ2++[junk,.lst (bs.map Bx.toD)]) (BX (A9 (x:=.lst [D.str "safe",.str "steady",.str "whole"]) (y:=.int r2) rfl (Ah (ds:=[.ref w,.int 3]) rfl e2) (Fb ek)) rfl) ?_;refine G6 (Ik (x:=.ref (L+1)) (μ1:=μ2++[junk,.lst (bs.map Bx.toD)]) rfl (JP (at1 (by rw[u2.len,u1.len,hL]))) (Ad (ds:=[]) (μ1:=μ4++[junk,.lst (bs.map Bx.toD)]) (Ah (ds:=[.str x,.str kd,.int (2+r1),.int r3,.str wr]) (μ1:=μ4++[junk,.lst (bs.map Bx.toD)]) ?_ (F0 (by show 5<=sizeLine;omega))) rfl) ap);exact Ad (μ1:=μ2++[junk,.lst (bs.map Bx.toD)]) (A9 (x:=.lst (sm.map D.str)) (y:=.int (11-(k:Int))) rfl (A9 (x:=.int 11) (y:=.int k) rfl rfl Yq) (Fb ei)) (Ad (μ1:=μ2++[junk,.lst (bs.map Bx.toD)]) rfl (Ad (μ1:=μ2++[junk,.lst (bs.map Bx.toD)]) rfl (Ad (μ1:=μ3++[junk,.lst (bs.map Bx.toD)]) (Ah (ds:=[.ref w,.int (2+r1)]) rfl e3) (Ad (μ1:=μ4++[junk,.lst (bs.map Bx.toD)]) (A9 (x:=.lst (ns.map D.str)) (y:=.int r4) rfl (Ah (ds:=[.ref w,.int ((ns.map D.str).length:Nat)]) rfl e4) (Fb ew)) rfl))))
end
end K1
set_option maxHeartbeats 4000000
namespace K1
open PySem L2 Mi
section
variable{μ μ1 μ2 μ' g:Mh}{n w:Nat}{l:Int}{d:D}{x y:Str}{τ:Sl}{ds:List D}
noncomputable def own(bs:List Bx)(nm:Str):List Str:=(bs.filter λb=>b.wr==nm).map Bx.nm
theorem WF{bs:List Bx}{nm:Str}{rn:List Str}{l:Int}(hnd:(bs.map Bx.nm).Nodup)(hrn:∀y∈rn,GoodName y/\y∉(["v", "not", "and", "or"]:List Str)){r:Rw}(h:r.Drawn (own bs nm) (bs.map Bx.nm) rn wr l):r.Ok (bs.map kv) nm wr l:=by
 have nv:∀y∈rn,y ≠ "v" := λy hy z=>(hrn y hy).2 (by rw[z];simp);refine⟨h.form,h.ends,λx hx=>?_,?_,?_⟩
 ·rcases AAJ.mp (show x∈rn++(if wr then (["v"]:List Str) else []) from h.vars x hx) with z|z
  ·refine⟨(hrn x z).1.ok,λq=>(hrn x z).2 ?_,.inr (nv x z)⟩;simp at q ⊢;exact .inr q
  ·cases wr with
   |true=>
    simp at z;subst z;exact⟨by decide +kernel,by decide +kernel,.inl rfl⟩
   |false=>simp at z
 ·have f:=h.frm;cases r with
  |get x bx=>exact nv x f.1
  |letr x e=>exact nv x f
  |_=>trivial
 ·have f:=h.frm;cases r with
  |put bx e=>
   have f:bx∈own bs nm:=f;unfold own at f;rw[AAL] at f;obtain⟨b,hb,rfl⟩:=f;rw[List.mem_filter] at hb;have e2:b.wr=nm:=beq_iff_eq.mp hb.2;show Fq (bs.map kv) (.inr b.nm)=some (.str nm);rw[PN hnd hb.1,e2]
  |get x bx=>
   have f:bx∈bs.map Bx.nm:=f.2;rw[AAL] at f;obtain⟨b,hb,rfl⟩:=f;show (Fq (bs.map kv) (.inr b.nm)).isSome=true;rw[PN hnd hb];rfl
  |_=>trivial
theorem VX(hn:PyData.strOk nm=true):∀(bs:List Bx) (ys:List D),(∀b∈bs,PyData.strOk b.wr=true)->Cb (AM 0) (AR (mOp A3 (mOp AU (AD 0) (mC (.int 4))) (AD 1))) (mOp AU (AD 0) (mC (.int 0))) [none,some (.str nm)] (bs.map Bx.toD) ys μ=some (ys++(own bs nm).map D.str,μ)
 |[],ys,_=>by show some (ys,μ)=_;simp[own]
 |b::bs,ys,h=>by
  have ih:=λys=>VX hn bs ys λq hq=>h q (by simp[hq]);have hb:=h b (by simp);show bnd (AM 0 b.toD [none,some (.str nm)]) _ μ=_;rw[AO (show AM 0 b.toD [none,some (.str nm)] μ=some ([some b.toD,some (.str nm)],μ) from rfl)];have t:AR (mOp A3 (mOp AU (AD 0) (mC (.int 4))) (AD 1)) [some b.toD,some (.str nm)] μ=some (b.wr==nm,μ):=CK (A9 (x:=.str b.wr) (y:=.str nm) (μ1:=μ) (μ2:=μ) (A9 (x:=b.toD) (y:=.int 4) (μ1:=μ) (μ2:=μ) rfl rfl (Ob rfl)) rfl (Vv hb hn));rw[AO t];by_cases c:b.wr=nm
  ·have c':(b.wr==nm)=true:=beq_iff_eq.mpr c;rw[c',if_pos rfl,AO (A9 (x:=b.toD) (y:=.int 0) (d:=.str b.nm) (μ1:=μ) (μ2:=μ) (μ3:=μ) rfl rfl (Ob rfl)),ih];simp[own,c']
  ·have c':(b.wr==nm)=false:=AAd.mpr c;rw[c',if_neg (by decide),ih];simp[own,c']
theorem QF{bs:List Bx}(hl:bs.length<=1000)(hm:ma τ μ=some (.ref n,μ))(h:μ[n]?=some (.lst (bs.map Bx.toD))):Bi 1 [] (Ic ma) (AM 0) Bu (mOp AU (AD 0) (mC (.int 0))) BE τ μ=some (.lst ((bs.map Bx.nm).map D.str),μ):=by
 have hz:sizeLine=16777216:=by decide
 have go:∀(xs:List Bx) (ys:List D),Cb (AM 0) Bu (mOp AU (AD 0) (mC (.int 0))) (BR 1 [] τ) (xs.map Bx.toD) ys μ=some (ys++(xs.map Bx.nm).map D.str,μ):=by
  intro xs
  induction xs with
  |nil=>intro ys;show some (ys,μ)=_;simp
  |cons a xs ih=>
   intro ys;show bnd (AM 0 a.toD (BR 1 [] τ)) _ μ=_;rw[AO (show AM 0 a.toD (BR 1 [] τ) μ=some ((BR 1 [] τ).set 0 (some a.toD),μ) from rfl),AO (show Bu ((BR 1 [] τ).set 0 (some a.toD)) μ=some (true,μ) from rfl),if_pos rfl,AO (A9 (x:=a.toD) (y:=.int 0) (d:=.str a.nm) (μ1:=μ) (μ2:=μ) (μ3:=μ) (Dj rfl) Hv (Ob rfl)),ih];simp
 exact Il (Vo hm h) (by simp;omega) (go bs []) (Cr (by simp;omega))
noncomputable abbrev ZR:Sl->M D:=(AF LI (AC (AD 6) (AC (AD 4) (AC (Bi 1 [] (Ic (AD 1)) (AM 0) Bu (mOp AU (AD 0) (mC (.int 0))) BE) (AC (AD 5) (AC (AD 3) (AC (mOp A3 (AD 2) (mC (.int 0))) AJ)))))))
theorem Qr{bs:List Bx}{nm:Str}{rn:List Str}{many:Int}{k L:Nat}{junk:MO}{ex:Mh}(hbs:∀b∈bs,GoodName b.nm)(hbl:bs.length<=6)(hrn:∀y∈rn,GoodName y)(hne:rn≠[])(hrl:rn.length<=100)(hm:0<=many)(hm2:many<=60):∀(ds ys:List D) (μ:Mh),WellAt μ w->μ.length=L->∃(rs:List Rw) (μ':Mh),
  Cb (AM 0) Bu ZR [none,some (.ref (L+1)),some (.int k),some (.int many),some (.lst ((own bs nm).map D.str)),some (.lst (rn.map D.str)),some (.ref w)] ds ys (μ++(junk::.lst (bs.map Bx.toD)::ex))=some (ys++rs.map Rw.toD,μ'++(junk::.lst (bs.map Bx.toD)::ex))/\rs.length=ds.length/\(∀r∈rs,r.Drawn (own bs nm) (bs.map Bx.nm) rn (k==0) many)/\Upd w μ μ'
 |[],ys,μ,hw,hL=>⟨[],μ,by show some (ys,_)=_;simp,rfl,by simp,hw.refl⟩
 |d::ds,ys,μ,hw,hL=>by
  have ho:∀x∈own bs nm,GoodName x:=λx hx=>by
   unfold own at hx;rw[AAL] at hx;obtain⟨b,hb,rfl⟩:=hx;exact hbs b (List.mem_filter.mp hb).1
  have hb:∀x∈bs.map Bx.nm,GoodName x:=λx hx=>by
   rw[AAL] at hx;obtain⟨b,hb,rfl⟩:=hx;exact hbs b hb
  have lo:(own bs nm).length<=100:=by
   unfold own;rw[AAF];exact AAq (List.length_filter_le _ _) (by omega)
  obtain⟨r,ν,e,dr,v⟩:=bT (own:=own bs nm) (bxs:=bs.map Bx.nm) (ns:=rn) (many:=many) (wr:=k==0) (hw.app (g:=junk::.lst (bs.map Bx.toD)::ex)) hm hm2 ho hb hrn hne lo (by rw[AAF];omega) hrl;obtain⟨μ1,u1,rfl⟩:=v.app hw.lt;have w1:=u1.well hw.lt;obtain⟨rs,μ',q,h1,h2,u⟩:=Qr (nm:=nm) (k:=k) (junk:=junk) (ex:=ex) hbs hbl hrn hne hrl hm hm2 ds (ys++[r.toD]) μ1 w1 (by rw[u1.len,hL]);refine⟨r::rs,μ',?_,by simp[h1],λq hq=>?_,u1.trans u⟩
  ·show bnd (AM 0 d _) _ _=_;have hk:(((k:Nat):Int)==0)=(k==0):=by
    by_cases z:k=0
    ·subst z;rfl
    ·rw[AAd.mpr z,AAd.mpr (by omega)]
   rw[AO (show AM 0 d [none,some (.ref (L+1)),some (.int k),some (.int many),some (.lst ((own bs nm).map D.str)),some (.lst (rn.map D.str)),some (.ref w)] (μ++(junk::.lst (bs.map Bx.toD)::ex))=some ([some d,some (.ref (L+1)),some (.int k),some (.int many),some (.lst ((own bs nm).map D.str)),some (.lst (rn.map D.str)),some (.ref w)],μ++(junk::.lst (bs.map Bx.toD)::ex)) from rfl)];rw[AO (show Bu [some d,some (.ref (L+1)),some (.int k),some (.int many),some (.lst ((own bs nm).map D.str)),some (.lst (rn.map D.str)),some (.ref w)] (μ++(junk::.lst (bs.map Bx.toD)::ex))=some (true,μ++(junk::.lst (bs.map Bx.toD)::ex)) from rfl),if_pos rfl];have c:ZR [some d,some (.ref (L+1)),some (.int k),some (.int many),some (.lst ((own bs nm).map D.str)),some (.lst (rn.map D.str)),some (.ref w)] (μ++(junk::.lst (bs.map Bx.toD)::ex))=some (r.toD,μ1++(junk::.lst (bs.map Bx.toD)::ex)):=by
    refine Ah (ds:=[.ref w,.lst ((own bs nm).map D.str),.lst ((bs.map Bx.nm).map D.str),.lst (rn.map D.str),.int many,.bl (k==0)]) (μ1:=μ++(junk::.lst (bs.map Bx.toD)::ex)) ?_ e;refine Ad (μ1:=μ++(junk::.lst (bs.map Bx.toD)::ex)) rfl (Ad (μ1:=μ++(junk::.lst (bs.map Bx.toD)::ex)) rfl (Ad (μ1:=μ++(junk::.lst (bs.map Bx.toD)::ex)) (QF (n:=L+1) (by omega) rfl (at1 hL)) (Ad (μ1:=μ++(junk::.lst (bs.map Bx.toD)::ex)) rfl (Ad (μ1:=μ++(junk::.lst (bs.map Bx.toD)::ex)) rfl (Ad (μ1:=μ++(junk::.lst (bs.map Bx.toD)::ex)) (A9 (x:=.int k) (y:=.int 0) (μ1:=μ++(junk::.lst (bs.map Bx.toD)::ex)) (μ2:=μ++(junk::.lst (bs.map Bx.toD)::ex)) rfl rfl ?_) rfl)))));rw[RX,hk]
   rw[AO c,q];simp
  ·rcases AAI.mp hq with z|z
   ·rw[z];exact dr
   ·exact h2 q z
end
end K1
set_option maxHeartbeats 4000000
namespace K1
open PySem L2 Mi
section
variable{μ μ1 μ2 μ' g:Mh}{n w:Nat}{d:D}{x y:Str}{τ1:Sl}{ds:List D}
noncomputable def four:List Str:=["x", "tell", "vv", "if"]
noncomputable def eight:List Str:=four++(["v", "not", "and", "or"]:List Str)
noncomputable def rn5(x:Str):List Str:=four.take 1++x::four.drop 1
theorem bq(gx:GoodName x)(nx:x∉eight):∀y∈rn5 x,GoodName y/\y∉(["v", "not", "and", "or"]:List Str):=by
 have h:∀y∈four,((1<=y.length/\y.length<=8)/\B9 y)/\y∉(["v", "not", "and", "or"]:List Str):=by unfold B9;decide +kernel
 intro y hy;have hy:y∈x::four:=by
  have p:(rn5 x).Perm (x::four):=by
   unfold rn5;refine List.perm_middle.trans ?_;rw[List.take_append_drop]
  exact p.mem_iff.mp hy
 rcases AAI.mp hy with z|z
 ·subst z;exact⟨gx,λq=>nx (AAZ _ q)⟩
 ·exact⟨⟨(h y z).1.1.1,(h y z).1.1.2,(h y z).1.2⟩,(h y z).2⟩
theorem Xr(h:μ.length=L)(hl:ds.length<=sizeLine):Dq ds (μ++(a::b::c::ex))=some (.ref (L+3+ex.length),μ++(a::b::c::(ex++[.lst ds]))):=by
 rw[J6 hl];subst h;have e:(μ++(a::b::c::ex)).length=μ.length+3+ex.length:=by simp;omega
 rw[e];simp
theorem at3(h:μ.length=L):(μ++(a::b::c::(ex++[o])))[L+3+ex.length]?=some o:=by
 subst h;rw[AAR (by omega),show μ.length+3+ex.length-μ.length=ex.length+1+1+1 from by omega];simp
theorem eB(h:μ.length=L):(μ++(a::b::c::(ex++[o]))).set (L+3+ex.length) p=μ++(a::b::c::(ex++[p])):=by
 subst h;rw[AAe _ _ (by omega),show μ.length+3+ex.length-μ.length=ex.length+1+1+1 from by omega];simp
noncomputable abbrev Ym:Sl->M (Fl×Sl):=(sIf (AR (mOp A3 (AD 5) (AD 9))) (As (mC (.int 60)) (AM 11)) A1)
noncomputable abbrev dI:Sl->M (Fl×Sl):=(AQ (As (mOp AU (AF BE (AC (mC (.int 0)) (AC (mC (.int 1)) (AC (mC (.int 3)) (AC (mC (.int 5)) (AC (mC (.int 7)) AJ)))))) (AF BM (AC (AD 0) (AC (mC (.int 5)) AJ)))) (AM 11))
  (AQ Ym
  (AQ (As (Bi 1 [10] (Ic (AD 4)) (AM 0) (AR (mOp A3 (mOp AU (AD 0) (mC (.int 4))) (AD 1))) (mOp AU (AD 0) (mC (.int 0))) BE) (AM 12))
  (AQ (As (AF Dq (AC (mC (.str "x")) (AC (mC (.str "tell")) (AC (mC (.str "vv")) (AC (mC (.str "if")) AJ))))) (AM 13))
  (AQ (Ag (BB Oh (AD 13) (AC (mC (.int 1)) (AC (AF DR (AC (AD 0) (AC (mOp M9 (AD 13) (AF BE (AC (mC (.str "v")) (AC (mC (.str "not")) (AC (mC (.str "and")) (AC (mC (.str "or")) AJ)))))) AJ))) AJ))))
  (AQ (As (mSl (AD 13) Bp (CQ (mOp Bf (mC (.int 1)) (AF BM (AC (AD 0) (AC (mC (.int 5)) AJ)))))) (AM 13))
  (AQ (As (Bi 1 [4,5,11,12,13,0] (Ig (AC (AD 11) AJ)) (AM 0) Bu ZR BE) (AM 14))
  (Ag (BB FQ (AD 8) (AC (AF BU (AC (AD 10) (AC (mOp AU (AF BE (AC (mC (.int 0)) (AC (mC (.int 1)) (AC (mC (.int 9)) (AC (mC (.int 99)) (AC (mC (.int 400)) AJ)))))) (AF BM (AC (AD 0) (AC (mC (.int 5)) AJ)))) (AC (AF C8 (AC (AD 14) AJ)) AJ)))) AJ))))))))))
structure QM(bs:List Bx)(i:Nat)(h:Hd):Prop where
 lo:0<=h.wi
 hi:h.wi<=400
 most:h.rs.length<=60
 rows:∀r∈h.rs,r.Ok (bs.map kv) h.nm (i==0) h.rs.length
theorem Xv(h1:0<=i)(h2:i<5):∃k:Int,0<=k/\k<=60/\atI [D.int 0,.int 1,.int 3,.int 5,.int 7] i=some (.int k):=by
 obtain⟨k,hk,e⟩:=Ky (f:=D.int) (xs:=[0,1,3,5,7]) h1 (by show i<5;exact h2);simp at hk;exact⟨k,by omega,by omega,e⟩
theorem SH(h1:0<=i)(h2:i<5):∃k:Int,0<=k/\k<=400/\atI [D.int 0,.int 1,.int 9,.int 99,.int 400] i=some (.int k):=by
 obtain⟨k,hk,e⟩:=Ky (f:=D.int) (xs:=[0,1,9,99,400]) h1 (by show i<5;exact h2);simp at hk;exact⟨k,by omega,by omega,e⟩
theorem ML(hnd:(bs.map Bx.nm).Nodup)(hbs:∀b∈bs,GoodName b.nm)(hbw:∀b∈bs,PyData.strOk b.wr=true)(hbl:bs.length<=6):∀(rest:List Str) (k:Nat) (hs:List Hd) (ex:Mh) (o5 o10 o11 o12 o13 o14:Option D) (μ:Mh),WellAt μ w->μ.length=L->hs.length=k->k+rest.length<=4->(∀(i:Nat) (h:Hd),hs[i]?=some h->QM bs i h)->(∀x∈rest,GoodName x)->∃(hs':List Hd) (ex':Mh) (o5' o10' o11' o12' o13' o14':Option D) (μ':Mh),
  Ba (DT [5,10]) dI (DS k (rest.map D.str)) [some (.ref w),o1,o2,o3,some (.ref (L+1)),o5,o6,o7,some (.ref (L+2)),some (.int lg),o10,o11,o12,o13,o14] (μ++(junk::MO.lst (bs.map Bx.toD)::MO.lst (hs.map Hd.toD)::ex)) =
   some ((.next,[some (.ref w),o1,o2,o3,some (.ref (L+1)),o5',o6,o7,some (.ref (L+2)),some (.int lg),o10',o11',o12',o13',o14']),μ'++(junk::.lst (bs.map Bx.toD)::.lst (hs'.map Hd.toD)::ex'))/\Upd w μ μ'/\hs'.map Hd.nm=hs.map Hd.nm++rest/\(∀(i:Nat) (h:Hd),hs'[i]?=some h->QM bs i h)
 |[],k,hs,ex,o5,o10,o11,o12,o13,o14,μ,hw,hL,hk,hr,ok,gn=>⟨hs,ex,o5,o10,o11,o12,o13,o14,μ,rfl,hw.refl,by simp,ok⟩
 |nm::rest,k,hs,ex,o5,o10,o11,o12,o13,o14,μ,hw,hL,hk,hr,ok,gn=>by
  have hz:sizeLine=16777216:=by decide
  have gnm:=gn nm (by simp);obtain⟨r1,μ1,e1,a1,b1,u1⟩:=Cp (g:=junk::.lst (bs.map Bx.toD)::.lst (hs.map Hd.toD)::ex) (b:=5) hw (by decide) (by decide);have w1:=u1.well hw.lt;have len1:μ1.length=L:=by rw[u1.len,hL]
  obtain⟨m0,m1,m2,em⟩:=Xv a1 b1;obtain⟨many,hm1,hm2,emany⟩:∃many:Int,0<=many/\many<=60/\Ym [some (.ref w),o1,o2,o3,some (.ref (L+1)),some (.int k),o6,o7,some (.ref (L+2)),some (.int lg),some (.str nm),some (.int m0),o12,o13,o14] (μ1++(junk::MO.lst (bs.map Bx.toD)::MO.lst (hs.map Hd.toD)::ex))=some ((.next,[some (.ref w),o1,o2,o3,some (.ref (L+1)),some (.int k),o6,o7,some (.ref (L+2)),some (.int lg),some (.str nm),some (.int many),o12,o13,o14]),μ1++(junk::MO.lst (bs.map Bx.toD)::MO.lst (hs.map Hd.toD)::ex)):=by
   by_cases c:(k:Int)=lg
   ·exact⟨60,by decide,by decide,Gm (CK (A9 (x:=.int k) (y:=.int lg) rfl rfl (Vw c))) rfl⟩
   ·exact⟨m0,m1,m2,Dk (CK (A9 (x:=.int k) (y:=.int lg) rfl rfl (Vx c))) rfl⟩
  have w1':WellAt (μ1++(junk::MO.lst (bs.map Bx.toD)::MO.lst (hs.map Hd.toD)::(ex++[MO.lst (four.map D.str)]))) w:=w1.app;obtain⟨x,ν2,q2,gx,nx,v2⟩:=KS (os:=.lst (eight.map D.str)) (xs:=eight) w1' (λy ν _=>c6) (by decide +kernel);obtain⟨μ2,u2,rfl⟩:=v2.app w1.lt;have w2:=u2.well w1.lt;have len2:μ2.length=L:=by rw[u2.len,len1]
  have l4:(four.map D.str).length=4:=rfl;have ins:=RU (μ:=μ2++(junk::MO.lst (bs.map Bx.toD)::MO.lst (hs.map Hd.toD)::(ex++[MO.lst (four.map D.str)]))) (n:=L+3+ex.length) (i:=1) (d:=.str x) (at3 len2) (by decide) (by decide) (by rw[l4];omega);rw[eB len2] at ins;have ern:(four.map D.str).take (1:Int).toNat++D.str x::(four.map D.str).drop (1:Int).toNat=(rn5 x).map D.str:=rfl;rw[ern] at ins;obtain⟨r3,μ3,e3,a3,b3,u3⟩:=Cp (g:=junk::.lst (bs.map Bx.toD)::.lst (hs.map Hd.toD)::(ex++[MO.lst ((rn5 x).map D.str)])) (b:=5) w2 (by decide) (by decide);have w3:=u3.well w2.lt;have len3:μ3.length=L:=by rw[u3.len,len2]
  obtain⟨c,rfl⟩:=Int.eq_ofNat_of_zero_le a3;have hrn:∀y∈(rn5 x).take (1+c),GoodName y/\y∉(["v", "not", "and", "or"]:List Str):=λy hy=>bq gx nx y (List.mem_of_mem_take hy);have hne:(rn5 x).take (1+c)≠[]:=by
   intro z;have:=congrArg List.length z;rw[List.length_take] at this;have l5:(rn5 x).length=5:=rfl;rw[l5] at this;simp at this
  have hrl:((rn5 x).take (1+c)).length<=100:=by
   rw[List.length_take];have l5:(rn5 x).length=5:=rfl;omega
  obtain⟨rs,μ4,q4,h41,h42,u4⟩:=Qr (nm:=nm) (k:=k) (junk:=junk) (ex:=.lst (hs.map Hd.toD)::(ex++[MO.lst ((rn5 x).map D.str)])) (many:=many) hbs hbl (λy hy=>(hrn y hy).1) hne hrl hm1 hm2 ((List.range' 0 many.toNat).map λj:Nat=>D.int j) [] μ3 w3 len3;have hrs:rs.length=many.toNat:=by rw[h41];simp
  have hrsI:((rs.length:Nat):Int)=many:=by omega
  have w4:=u4.well w3.lt;have len4:μ4.length=L:=by rw[u4.len,len3]
  obtain⟨r5,μ5,e5,a5,b5,u5⟩:=Cp (g:=junk::.lst (bs.map Bx.toD)::.lst (hs.map Hd.toD)::(ex++[MO.lst ((rn5 x).map D.str)])) (b:=5) w4 (by decide) (by decide);have w5:=u5.well w4.lt;have len5:μ5.length=L:=by rw[u5.len,len4]
  obtain⟨wi,i1,i2,ewi⟩:=SH a5 b5;have ok':∀(i:Nat) (h:Hd),(hs++[(⟨nm,wi,rs⟩:Hd)])[i]?=some h->QM bs i h:=by
   intro i h e;by_cases hi:i<hs.length
   ·rw[AAS hi] at e;exact ok i h e
   ·have hi2:=(AAT.mp e).1;simp at hi2;have hik:i=hs.length:=by omega
    subst hik;rw[List.getElem?_concat_length] at e;cases e;refine⟨i1,i2,by show rs.length<=60;omega,λr hr=>?_⟩;show r.Ok (bs.map kv) nm (hs.length==0) rs.length;rw[hrsI,hk];exact WF hnd hrn (h42 r hr)
  obtain⟨hs',ex',o5',o10',o11',o12',o13',o14',μ',q,u,hnm,okk⟩:=ML (junk:=junk) (lg:=lg) (o1:=o1) (o2:=o2) (o3:=o3) (o6:=o6) (o7:=o7) hnd hbs hbw hbl rest (k+1) (hs++[⟨nm,wi,rs⟩]) (ex++[MO.lst ((rn5 x).map D.str)]) (some (.int k)) (some (.str nm)) (some (.int many)) (some (.lst ((own bs nm).map D.str))) (some (.lst (((rn5 x).take (1+c)).map D.str))) (some (.lst (rs.map Rw.toD))) μ5 w5 len5 (by simp[hk]) (by simp at hr;omega) ok' (λy hy=>gn y (by simp[hy]));refine⟨hs',ex',o5',o10',o11',o12',o13',o14',μ',?_,u1.trans (u2.trans (u3.trans (u4.trans (u5.trans u)))),by rw[hnm];simp,okk⟩;have ap:=RY (μ:=μ5++(junk::MO.lst (bs.map Bx.toD)::MO.lst (hs.map Hd.toD)::(ex++[MO.lst ((rn5 x).map D.str)]))) (n:=L+2) (d:=(Hd.mk nm wi rs).toD) (at2 len5) (by rw[AAF];omega);rw[eC len5] at ap;have eb:hs.map Hd.toD++[(Hd.mk nm wi rs).toD]=(hs++[(⟨nm,wi,rs⟩:Hd)]).map Hd.toD:=by simp
  rw[eb] at ap;rw[AAW];refine CO (τ1:=[some (.ref w),o1,o2,o3,some (.ref (L+1)),some (.int k),o6,o7,some (.ref (L+2)),some (.int lg),some (.str nm),o11,o12,o13,o14]) (μ1:=μ++(junk::MO.lst (bs.map Bx.toD)::MO.lst (hs.map Hd.toD)::ex)) rfl ?_ q;refine Ak (τ1:=[some (.ref w),o1,o2,o3,some (.ref (L+1)),some (.int k),o6,o7,some (.ref (L+2)),some (.int lg),some (.str nm),some (.int m0),o12,o13,o14]) (μ1:=μ1++(junk::MO.lst (bs.map Bx.toD)::MO.lst (hs.map Hd.toD)::ex)) (BX (A9 (x:=.lst [D.int 0,.int 1,.int 3,.int 5,.int 7]) (y:=.int r1) rfl (Ah (ds:=[.ref w,.int 5]) rfl e1) (Fb em)) rfl) ?_;refine Ak emany ?_;refine Ak (τ1:=[some (.ref w),o1,o2,o3,some (.ref (L+1)),some (.int k),o6,o7,some (.ref (L+2)),some (.int lg),some (.str nm),some (.int many),some (.lst ((own bs nm).map D.str)),o13,o14]) (μ1:=μ1++(junk::MO.lst (bs.map Bx.toD)::MO.lst (hs.map Hd.toD)::ex)) (BX (d:=.lst ((own bs nm).map D.str)) (Il (ds:=bs.map Bx.toD) (Vo (n:=L+1) rfl (at1 len1)) (by rw[AAF];omega) (VX gnm.ok bs [] hbw) (Cr (by rw[List.nil_append,AAF];unfold own;rw[AAF];exact AAq (List.length_filter_le _ _) (by omega)))) rfl) ?_;refine Ak (τ1:=[some (.ref w),o1,o2,o3,some (.ref (L+1)),some (.int k),o6,o7,some (.ref (L+2)),some (.int lg),some (.str nm),some (.int many),some (.lst ((own bs nm).map D.str)),some (.ref (L+3+ex.length)),o14]) (μ1:=μ1++(junk::MO.lst (bs.map Bx.toD)::MO.lst (hs.map Hd.toD)::(ex++[MO.lst (four.map D.str)]))) (BX (Ah (ds:=four.map D.str) rfl (Xr len1 (by rw[l4];omega))) rfl) ?_;have ad1:M9 (.ref (L+3+ex.length)) (.lst [D.str "v",.str "not",.str "and",.str "or"]) (μ1++(junk::MO.lst (bs.map Bx.toD)::MO.lst (hs.map Hd.toD)::(ex++[MO.lst (four.map D.str)])))=some (.lst (eight.map D.str),μ1++(junk::MO.lst (bs.map Bx.toD)::MO.lst (hs.map Hd.toD)::(ex++[MO.lst (four.map D.str)]))):=by
   show (match (μ1++(junk::MO.lst (bs.map Bx.toD)::MO.lst (hs.map Hd.toD)::(ex++[MO.lst (four.map D.str)])))[L+3+ex.length]? with|some (.lst a)=>BE (a++[D.str "v",.str "not",.str "and",.str "or"]) (μ1++(junk::MO.lst (bs.map Bx.toD)::MO.lst (hs.map Hd.toD)::(ex++[MO.lst (four.map D.str)])))|_=>none)=_;rw[at3 len1];exact Cr (by show 8<=sizeLine;omega)
  refine Ak (μ1:=μ2++(junk::MO.lst (bs.map Bx.toD)::MO.lst (hs.map Hd.toD)::(ex++[MO.lst ((rn5 x).map D.str)]))) (G6 (Ik (x:=.ref (L+3+ex.length)) (μ1:=μ1++(junk::MO.lst (bs.map Bx.toD)::MO.lst (hs.map Hd.toD)::(ex++[MO.lst (four.map D.str)]))) rfl (JP (at3 len1)) (Ad (x:=.int 1) (ds:=[.str x]) rfl (Ad (ds:=[]) (Ah (ds:=[.ref w,.lst (eight.map D.str)]) (Ad (x:=.ref w) (ds:=[.lst (eight.map D.str)]) (μ1:=μ1++(junk::MO.lst (bs.map Bx.toD)::MO.lst (hs.map Hd.toD)::(ex++[MO.lst (four.map D.str)]))) rfl (Ad (ds:=[]) (A9 (x:=.ref (L+3+ex.length)) (y:=.lst [D.str "v",.str "not",.str "and",.str "or"]) rfl rfl ad1) rfl)) q2) rfl)) ins)) ?_;refine Ak (τ1:=[some (.ref w),o1,o2,o3,some (.ref (L+1)),some (.int k),o6,o7,some (.ref (L+2)),some (.int lg),some (.str nm),some (.int many),some (.lst ((own bs nm).map D.str)),some (.lst (((rn5 x).take (1+c)).map D.str)),o14]) (μ1:=μ3++(junk::MO.lst (bs.map Bx.toD)::MO.lst (hs.map Hd.toD)::(ex++[MO.lst ((rn5 x).map D.str)]))) (BX (Oo (x:=.ref (L+3+ex.length)) (a:=none) (b:=some ((1+c:Nat):Int)) (μ1:=μ2++(junk::MO.lst (bs.map Bx.toD)::MO.lst (hs.map Hd.toD)::(ex++[MO.lst ((rn5 x).map D.str)]))) (μ2:=μ2++(junk::MO.lst (bs.map Bx.toD)::MO.lst (hs.map Hd.toD)::(ex++[MO.lst ((rn5 x).map D.str)]))) rfl rfl (Na (A9 (x:=.int 1) (y:=.int c) (μ1:=μ2++(junk::MO.lst (bs.map Bx.toD)::MO.lst (hs.map Hd.toD)::(ex++[MO.lst ((rn5 x).map D.str)]))) rfl (Ah (ds:=[.ref w,.int 5]) rfl e3) (by rw[Oc];rfl))) (by rw[Vp (at3 len3),LL,List.map_take])) rfl) ?_;refine Ak (τ1:=[some (.ref w),o1,o2,o3,some (.ref (L+1)),some (.int k),o6,o7,some (.ref (L+2)),some (.int lg),some (.str nm),some (.int many),some (.lst ((own bs nm).map D.str)),some (.lst (((rn5 x).take (1+c)).map D.str)),some (.lst (rs.map Rw.toD))]) (μ1:=μ4++(junk::MO.lst (bs.map Bx.toD)::MO.lst (hs.map Hd.toD)::(ex++[MO.lst ((rn5 x).map D.str)]))) (BX (d:=.lst (rs.map Rw.toD)) (Il (Yr (m:=many) rfl hm1 (by omega)) (by simp;omega) q4 (by rw[List.nil_append];exact Cr (by rw[AAF];omega))) rfl) ?_;exact G6 (Ik (x:=.ref (L+2)) (μ1:=μ4++(junk::MO.lst (bs.map Bx.toD)::MO.lst (hs.map Hd.toD)::(ex++[MO.lst ((rn5 x).map D.str)]))) rfl (JP (at2 len4)) (Ad (ds:=[]) (Ah (ds:=[.str nm,.int wi,.tup (rs.map Rw.toD)]) (μ1:=μ5++(junk::MO.lst (bs.map Bx.toD)::MO.lst (hs.map Hd.toD)::(ex++[MO.lst ((rn5 x).map D.str)]))) (Ad (μ1:=μ4++(junk::MO.lst (bs.map Bx.toD)::MO.lst (hs.map Hd.toD)::(ex++[MO.lst ((rn5 x).map D.str)]))) rfl (Ad (A9 (x:=.lst [D.int 0,.int 1,.int 9,.int 99,.int 400]) (y:=.int r5) rfl (Ah (ds:=[.ref w,.int 5]) rfl e5) (Fb ewi)) (Ad (ds:=[]) (Ah (ds:=[.lst (rs.map Rw.toD)]) rfl aR) rfl))) (F0 (by show 3<=sizeLine;omega))) rfl) ap)
end
end K1
set_option maxHeartbeats 4000000
namespace K1
open PySem L2 Mi
section
variable{μ μ1 μ2 μ' g:Mh}{w:Nat}{d:D}{x y:Str}{τ1 τ2:Sl}{ds:List D}
theorem KC{α:Type}{f:α->D}{k:Nat}(h:∀a,Cl k (f a)):∀xs:List α,ClL k (xs.map f)
 |[]=>by simp[ClL]
 |x::r=>by rw[AAW];unfold ClL;exact⟨h x,KC h r⟩
theorem Bx.cl(b:Bx):Cl k b.toD:=by simp[Bx.toD,Cl,ClL]
theorem Hd.cl{k:Nat}(b:Hd):Cl k b.toD:=by
 have:=KC (k:=k) (f:=Rw.toD) (λr=>r.cl) b.rs;simp[Hd.toD,Cl,ClL,this]
theorem Mk.cl{k:Nat}(m:Mk):Cl k m.toD:=by
 have h1:=KC (k:=k) (f:=Bx.toD) (λr=>r.cl) m.bs;have h2:=KC (k:=k) (f:=Hd.toD) (λr=>r.cl) m.hs;simp[Mk.toD,Cl,ClL,h1,h2]
theorem UL(hw:WellAt μ w):∃(m:Mk) (μ':Mh),JW [.ref w] μ=some (m.toD,μ')/\m.Ok/\Upd w μ μ':=by
 have hz:sizeLine=16777216:=by decide
 obtain⟨sm,c,r,junk,μ1,N,c2,c4,u1,P⟩:=Pr hw;have w1:=u1.well hw.lt;have len1:μ1.length=μ.length:=u1.len;have nsl:(sm.take c).length=c:=by rw[List.length_take,N.len];omega
 have nsne:sm.take c≠[]:=by intro z;rw[z] at nsl;simp at nsl;omega
 have nsg:∀y∈sm.take c,GoodName y:=λy hy=>N.good y (List.mem_of_mem_take hy);have nsd:(sm.take c).Nodup:=N.nd.sublist (List.take_sublist _ _);obtain⟨r2,μ2,e2,a2,b2,u2⟩:=Cp (g:=[junk,.lst []]) (b:=7) w1 (by decide) (by decide);have w2:=u2.well w1.lt;have len2:μ2.length=μ.length:=by rw[u2.len,len1]
 obtain⟨bs,o5,o6,o7,μ3,q3,u3,B⟩:=Oy (sm:=sm) (ns:=sm.take c) (junk:=junk) (o2:=some (.int r)) (L:=μ.length) N.len nsne (by omega) r2.toNat 0 [] none none none μ2 w2 len2 (by omega) ⟨by simp,by simp,by simp⟩;rw[Nat.zero_add] at B;have w3:=u3.well w2.lt;have len3:μ3.length=μ.length:=by rw[u3.len,len2]
 have bl:bs.length<=6:=by
  have:=congrArg List.length B.nms;rw[AAF,List.length_take] at this;omega
 have bnd':(bs.map Bx.nm).Nodup:=by
  rw[B.nms];exact((List.reverse_perm sm).nodup_iff.mpr N.nd).sublist (List.take_sublist _ _)
 have bg:∀b∈bs,GoodName b.nm:=λb hb=>by
  have:b.nm∈sm.reverse.take r2.toNat:=by rw[←B.nms];exact AAL.mpr ⟨b,hb,rfl⟩
  exact N.good _ (List.mem_reverse.mp (List.mem_of_mem_take this))
 have hln:((((sm.take c).map D.str).length:Nat):Int)=c:=by rw[AAF,nsl]
 obtain⟨lg,μ4,e4,a4,b4,u4⟩:=Cp (g:=[junk,.lst (bs.map Bx.toD),.lst []]) (b:=9 * ((((sm.take c).map D.str).length:Nat):Int)) w3 (by omega) (by omega);have w4:=u4.well w3.lt;have len4:μ4.length=μ.length:=by rw[u4.len,len3]
 obtain⟨hs,ex,p5,p10,p11,p12,p13,p14,μ5,q5,u5,hnm,hok⟩:=ML (bs:=bs) (junk:=junk) (L:=μ.length) (lg:=lg) (o1:=some (.lst (sm.map D.str))) (o2:=some (.int r)) (o3:=some (.lst ((sm.take c).map D.str))) (o6:=o6) (o7:=o7) bnd' bg (λb hb=>(nsg _ (B.wri b hb)).ok) bl (sm.take c) 0 [] [] o5 none none none none none μ4 w4 len4 rfl (by rw[nsl];omega) (by simp) nsg;have w5:=u5.well w4.lt;have len5:μ5.length=μ.length:=by rw[u5.len,len4]
 obtain⟨r6,μ6,e6,a6,b6,u6⟩:=Cp (g:=junk::.lst (bs.map Bx.toD)::.lst (hs.map Hd.toD)::ex) (b:=9) w5 (by decide) (by decide);have w6:=u6.well w5.lt;obtain⟨r7,μ7,e7,a7,b7,u7⟩:=Cp (g:=junk::.lst (bs.map Bx.toD)::.lst (hs.map Hd.toD)::ex) (b:=3) w6 (by decide) (by decide);have w7:=u7.well w6.lt;obtain⟨kd,hkd,ek⟩:=Rc a7 b7;obtain⟨r8,μ8,e8,a8,b8,u8⟩:=Cp (g:=junk::.lst (bs.map Bx.toD)::.lst (hs.map Hd.toD)::ex) (b:=2+r6) w7 (by omega) (by omega);have len8:μ8.length=μ.length:=by rw[u8.len,u7.len,u6.len,len5]
 have u:Upd w μ μ8:=u1.trans (u2.trans (u3.trans (u4.trans (u5.trans (u6.trans (u7.trans u8))))));have hnm2:hs.map Hd.nm=sm.take c:=by rw[hnm];rfl
 have hsl:hs.length=c:=by have:=congrArg List.length hnm2;rw[AAF,nsl] at this;exact this
 refine⟨⟨kd,2+r6,r8,bs,hs⟩,μ8,?_,?_,u⟩
 ·refine G9 (g:=junk::.lst (bs.map Bx.toD)::.lst (hs.map Hd.toD)::ex) (τ2:=[some (.ref w),some (.lst (sm.map D.str)),some (.int r),some (.lst ((sm.take c).map D.str)),some (.ref (μ.length+1)),p5,some (.int (2+r6)),some (.str kd),some (.ref (μ.length+2)),some (.int lg),p10,p11,p12,p13,p14]) ?_ rfl u (Mk.cl _);refine P ?_;refine Ak (τ1:=[some (.ref w),some (.lst (sm.map D.str)),some (.int r),some (.lst ((sm.take c).map D.str)),some (.ref (μ.length+1)),none,none,none,none,none,none,none,none,none,none]) (μ1:=μ1++[junk,.lst []]) (BX (d:=.ref (μ.length+1)) (μ1:=μ1++[junk,.lst []]) (Ah (ds:=[]) rfl (by rw[J6 (by show 0<=sizeLine;omega),AAG,len1,AAk];rfl)) rfl) ?_;refine Ak (FN (Yr (m:=r2) (μ1:=μ2++[junk,.lst []]) (Ad (ds:=[]) (Ah (ds:=[.ref w,.int 7]) rfl e2) rfl) a2 (by omega)) q3) ?_;refine Ak (τ1:=[some (.ref w),some (.lst (sm.map D.str)),some (.int r),some (.lst ((sm.take c).map D.str)),some (.ref (μ.length+1)),o5,o6,o7,some (.ref (μ.length+2)),none,none,none,none,none,none]) (μ1:=μ3++[junk,.lst (bs.map Bx.toD),.lst []]) (BX (d:=.ref (μ.length+2)) (μ1:=μ3++[junk,.lst (bs.map Bx.toD),.lst []]) (Ah (ds:=[]) rfl (by rw[J6 (by show 0<=sizeLine;omega),AAG,len3,AAk];rfl)) rfl) ?_;refine Ak (τ1:=[some (.ref w),some (.lst (sm.map D.str)),some (.int r),some (.lst ((sm.take c).map D.str)),some (.ref (μ.length+1)),o5,o6,o7,some (.ref (μ.length+2)),some (.int lg),none,none,none,none,none]) (μ1:=μ4++[junk,.lst (bs.map Bx.toD),.lst []]) (BX (Ah (ds:=[.ref w,.int (9 * ((((sm.take c).map D.str).length:Nat):Int))]) (μ1:=μ3++[junk,.lst (bs.map Bx.toD),.lst []]) (Ad (μ1:=μ3++[junk,.lst (bs.map Bx.toD),.lst []]) rfl (Ad (ds:=[]) (μ1:=μ3++[junk,.lst (bs.map Bx.toD),.lst []]) (A9 (x:=.int 9) (y:=.int ((((sm.take c).map D.str).length:Nat):Int)) (μ1:=μ3++[junk,.lst (bs.map Bx.toD),.lst []]) (μ2:=μ3++[junk,.lst (bs.map Bx.toD),.lst []]) rfl (Ah (ds:=[.lst ((sm.take c).map D.str)]) rfl Vs) (Ys (.inl (by omega)))) rfl)) e4) rfl) ?_;refine Ak (FN (ds:=DS 0 ((sm.take c).map D.str)) (μ1:=μ4++[junk,.lst (bs.map Bx.toD),.lst []]) rfl q5) ?_;refine Ak (τ1:=[some (.ref w),some (.lst (sm.map D.str)),some (.int r),some (.lst ((sm.take c).map D.str)),some (.ref (μ.length+1)),p5,some (.int (2+r6)),o7,some (.ref (μ.length+2)),some (.int lg),p10,p11,p12,p13,p14]) (μ1:=μ6++(junk::.lst (bs.map Bx.toD)::.lst (hs.map Hd.toD)::ex)) (BX (A9 (x:=.int 2) (y:=.int r6) rfl (Ah (ds:=[.ref w,.int 9]) rfl e6) Oc) rfl) ?_;refine Ak (τ1:=[some (.ref w),some (.lst (sm.map D.str)),some (.int r),some (.lst ((sm.take c).map D.str)),some (.ref (μ.length+1)),p5,some (.int (2+r6)),some (.str kd),some (.ref (μ.length+2)),some (.int lg),p10,p11,p12,p13,p14]) (μ1:=μ7++(junk::.lst (bs.map Bx.toD)::.lst (hs.map Hd.toD)::ex)) (BX (A9 (x:=.lst [D.str "safe",.str "steady",.str "whole"]) (y:=.int r7) rfl (Ah (ds:=[.ref w,.int 3]) rfl e7) (Fb ek)) rfl) ?_;refine JX (Ah (ds:=[.str kd,.int (2+r6),.int r8,.tup (bs.map Bx.toD),.tup (hs.map Hd.toD)]) (μ1:=μ8++(junk::.lst (bs.map Bx.toD)::.lst (hs.map Hd.toD)::ex)) ?_ (F0 (by show 5<=sizeLine;omega)));exact Ad (μ1:=μ7++(junk::.lst (bs.map Bx.toD)::.lst (hs.map Hd.toD)::ex)) rfl (Ad (μ1:=μ7++(junk::.lst (bs.map Bx.toD)::.lst (hs.map Hd.toD)::ex)) rfl (Ad (Ah (ds:=[.ref w,.int (2+r6)]) rfl e8) (Ad (μ1:=μ8++(junk::.lst (bs.map Bx.toD)::.lst (hs.map Hd.toD)::ex)) (Ah (ds:=[.ref (μ.length+1)]) rfl (Vn (at1 len8))) (Ad (μ1:=μ8++(junk::.lst (bs.map Bx.toD)::.lst (hs.map Hd.toD)::ex)) (Ah (ds:=[.ref (μ.length+2)]) rfl (Vn (at2 len8))) rfl))))
 ·refine⟨⟨hkd,by show 2<=2+r6;omega,by show 2+r6<=10;omega,a8,by show r8<=2+r6-1;omega⟩,λb hb=>⟨bg b hb,B.wor b hb⟩,bl,bnd',λh hh=>?_,by show 2<=hs.length;omega,by show hs.length<=4;omega,by show (hs.map Hd.nm).Nodup;rw[hnm2];exact nsd,λb hb=>?_,λi h e=>(hok i h e).rows⟩
  ·obtain⟨i,e⟩:=List.mem_iff_getElem?.mp hh;have H:=hok i h e;exact⟨nsg _ (by rw[←hnm2];exact AAL.mpr ⟨h,hh,rfl⟩),H.lo,H.hi,H.most⟩
  ·show b.wr∈hs.map Hd.nm;rw[hnm2];exact B.wri b hb
end
end K1
set_option maxHeartbeats 4000000
namespace K1
open PySem L2 Mi
end K1
namespace Hs
open PySem PySem.SetTable
end Hs
namespace Hs
open PySem PySem.SetTable Ht
end Hs
set_option maxHeartbeats 4000000
namespace Hs
open PySem PySem.Spec PyProof.Rows Nk
end Hs
set_option maxHeartbeats 4000000
namespace Hs
open PySem PySem.Spec PyProof.Rows Nk PySem.SetTable Ht
end Hs
set_option maxHeartbeats 4000000
namespace Hs
open PySem PySem.Spec PyProof.Rows Nk PySem.SetTable Ht
end Hs
set_option maxHeartbeats 4000000
namespace Hs
open PySem PySem.Spec PyProof.Rows Nk PySem.SetTable Ht
end Hs
set_option maxHeartbeats 4000000
namespace Hs
open PySem PySem.Spec PyProof.Rows Nk PySem.SetTable Ht
end Hs
set_option maxHeartbeats 4000000
namespace Hs
open PySem PySem.Spec PyProof.Rows Nk PySem.SetTable Ht
end Hs
set_option maxHeartbeats 4000000
namespace Hs
open PySem PySem.Spec PyProof.Rows Sem L2 Nk PySem.SetTable Ht
section
variable{α:Type}[DecidableEq α]
end
end Hs
namespace Hs
open PySem PySem.Spec PyProof.Rows Sem L2 Nk Ht
end Hs
set_option maxHeartbeats 4000000
namespace Hs
open PySem PySem.Spec PyProof.Rows PySem.SeqAt Nk Ht
end Hs
set_option maxHeartbeats 4000000
namespace Hs
open PySem PySem.Spec PyProof.Rows Nk PySem.SetTable Ht L2
end Hs
set_option maxHeartbeats 4000000
namespace Hs
open PySem PySem.Spec PyProof.Rows Nk PySem.SetTable Ht L2
end Hs
set_option maxHeartbeats 4000000
namespace Hs
open PySem PySem.Spec PyProof.Rows Nk PySem.SetTable Ht L2
end Hs
set_option maxHeartbeats 2000000
namespace Mi
open PySem PySem.Spec PyProof.Rows L2 Ht Nk Hs
end Mi
set_option maxHeartbeats 2000000
namespace Mi
open PySem PySem.Spec PyProof.Rows L2 Ht Nk Hs
end Mi
set_option maxHeartbeats 2000000
namespace Xt
open PySem PySem.Spec PyProof.Rows Sem L2 Ht
section
variable{s:Shared}
set_option hygiene false in
local macro_rules | `(tactic| wtm_at "z")=>`(tactic| (
 refine AAA (wpAny_storeSet_of (s:={ s with toks:=s.toks+1 }) ho hd ?_ (by rw[sizeLine_eq];unfold scanBound at room;omega));have ho1:=get_put ho hd es1 t2;have sb1:=Heap.SameBut.update s.heap a (Obj.putSet es1 t2);by_cases hf:(!wd&&t2.tooFull)=true
 ·rw[if_pos hf];have rp:=relayAll_perm t2 es1 (SetTable.grown es1.size);have rf:=relayAll_fits t2 es1 (SetTable.grown es1.size);have rl:=relay_led t2 es1 (SetTable.grown es1.size);generalize relayAll t2 es1 (SetTable.grown es1.size)=ry at rp rf rl;obtain⟨es3,t3,gv3⟩:=ry;dsimp only at rp rf rl ⊢;have s3:es3.size=es1.size:=by simpa using rp.length_eq
  cases gv3
  all_goals
   first
    |refine AAA (AAB ?_)
    |refine AAA (wpAny_rule ?_)
   refine AAA (wpAny_storeSet_of (s:={ s with heap:=s.heap.update a (Obj.putSet es1 t2),toks:=s.toks+1 }) ho1 rfl ?_ (by rw[sizeLine_eq];unfold scanBound at room;omega));exact AAB (AAB (wrap es3 t3 _ o _ _ (sb1.trans (Heap.SameBut.update _ a _)) (get_put ho1 rfl es3 t3) rp rf (rl.1.trans fl.2.1) (rl.2 fl.2.2)))
 ·rw[if_neg hf];exact AAB (AAB (wrap es1 t2 _ o _ _ sb1 ho1 (.refl _) fl.1 fl.2.1 fl.2.2))))
end
end Xt
set_option maxHeartbeats 2000000
namespace Xt
open PySem PySem.Spec PyProof.Rows Sem L2 Ht
end Xt
set_option maxHeartbeats 2000000
namespace Xt
open PySem PySem.Spec PyProof.Rows Sem L2 Ht
end Xt
set_option maxHeartbeats 2000000
namespace Xt
open PySem PySem.Spec PyProof.Rows Sem L2 Ht
end Xt
set_option maxHeartbeats 2000000
namespace Xt
open PySem PySem.Spec PyProof.Rows Sem L2 Ht
end Xt
namespace L2
open PySem PySem.Spec PyProof.Rows Sem Ht Xt
end L2
namespace Mi
open PySem L2 Ht Xt
end Mi
namespace Mi
open PySem L2
end Mi
namespace Kst
open PySem L2 Mi
end Kst
namespace Mi
open PySem L2
def WP{α:Type}(m:M α)(μ:Mh)(Q:α->Mh->Prop):Prop:=∃a μ',m μ=some (a,μ')/\Q a μ'
section
variable{α β:Type}{m:M α}{f:α->M β}{μ μ':Mh}{Q Q':α->Mh->Prop}{R:β->Mh->Prop}{a:α}
theorem Aw(h:m μ=some (a,μ'))(q:Q a μ'):WP m μ Q:=⟨a,μ',h,q⟩
theorem Am(h:WP m μ Q)(k:∀a μ',Q a μ'->Q' a μ'):WP m μ Q':=by
 obtain⟨a,μ',e,q⟩:=h;exact⟨a,μ',e,k a μ' q⟩
theorem Aa(h:WP m μ λa μ1=>WP (f a) μ1 R):WP (bnd m f) μ R:=by
 obtain⟨a,μ1,e,b,μ2,e2,q⟩:=h;exact⟨b,μ2,by rw[AO e];exact e2,q⟩
theorem Bd(q:Q a μ):WP (ret a) μ Q:=⟨a,μ,rfl,q⟩
end
section
variable{τ τ1:Sl}{μ μ1:Mh}{d x y:D}{ds:List D}{ma mb:Sl->M D}{ra:Sl->M (List D)}{tc tb:Sl->M Bool}{m1 m2:Sl->M (Fl×Sl)}{g:D->D->M D}{QD:D->Mh->Prop}{QB:Bool->Mh->Prop}{QL:List D->Mh->Prop}{QS:Fl×Sl->Mh->Prop}{QO:Option Int->Mh->Prop}{i j:Int}{k n:Nat}
theorem AT{i:Nat}(h:τ[i]?=some (some d))(q:QD d μ):WP (AD i τ) μ QD:=Aw (Dj h) q
theorem BV(q:QD d μ):WP (mC d τ) μ QD:=⟨d,μ,rfl,q⟩
theorem BI(h:WP (ma τ) μ λx μ1=>WP (mb τ) μ1 λy μ2=>WP (g x y) μ2 QD):WP (mOp g ma mb τ) μ QD:=Aa (Am h λ_ _ z=>Aa z)
theorem EO(h:WP (ma τ) μ λx μ1=>WP (u x) μ1 QD):WP (mUn u ma τ) μ QD:=Aa h
theorem Av(h:WP (ra τ) μ λds μ1=>WP (f ds) μ1 QD):WP (AF f ra τ) μ QD:=Aa h
theorem Ab(q:QL [] μ):WP (AJ τ) μ QL:=⟨[],μ,rfl,q⟩
theorem Af(h:WP (ma τ) μ λx μ1=>WP (ra τ) μ1 λds μ2=>QL (x::ds) μ2):WP (AC ma ra τ) μ QL:=Aa (Am h λ_ _ z=>Aa (Am z λ_ _ z=>Bd z))
theorem Tx(z:WP (ma τ) μ λx μ1=>WP (l τ) μ1 λa μ2=>WP (h τ) μ2 λb μ3=>WP (Ks a b x) μ3 QD):WP (Ie ma l h τ) μ QD:=Aa (Am z λ_ _ z=>Aa (Am z λ_ _ z=>Aa z))
theorem SG(q:QO none μ):WP (Bp τ) μ QO:=⟨none,μ,rfl,q⟩
theorem Mr(h:WP (ma τ) μ λd μ1=>∃i,d=.int i/\QO (some i) μ1):WP (CQ ma τ) μ QO:=Aa (Am h λ_ _ ⟨i,e,q⟩=>by subst e;exact Bd q)
theorem Y4(h:WP (mc τ) μ λb μ1=>(b=true->WP (ma τ) μ1 QD)/\(b=false->WP (mb τ) μ1 QD)):WP (mIf mc ma mb τ) μ QD:=Aa (Am h λb _ z=>by cases b;exact z.2 rfl;exact z.1 rfl)
theorem A5(h:WP (ma τ) μ λd μ1=>∃b,d=.bl b/\QB b μ1):WP (AR ma τ) μ QB:=Aa (Am h λ_ _ ⟨b,e,q⟩=>by subst e;exact Bd q)
theorem Tz(h:WP (tc τ) μ λb μ1=>QB (!b) μ1):WP (Fa tc τ) μ QB:=Aa (Am h λ_ _ q=>Bd q)
noncomputable def bK(m:M Bool)(QB:Bool->Mh->Prop):Bool->Mh->Prop
 |true,μ=>WP m μ QB
 |false,μ=>QB false μ
noncomputable def orK(m:M Bool)(QB:Bool->Mh->Prop):Bool->Mh->Prop
 |true,μ=>QB true μ
 |false,μ=>WP m μ QB
theorem Y5(h:WP (tc τ) μ (bK (tb τ) QB)):WP (GH tc tb τ) μ QB:=Aa (Am h λb _ z=>by cases b;exact Bd z;exact z)
theorem bR(h:WP (tc τ) μ (orK (tb τ) QB)):WP (mOr tc tb τ) μ QB:=Aa (Am h λb _ z=>by cases b;exact z;exact Bd z)
theorem Wt(h:WP (ma τ) μ λd μ1=>∃b,d=.bl b/\(b=true->WP (mb τ) μ1 QD)/\(b=false->QD (.bl false) μ1)):WP (Dt ma mb τ) μ QD:=Aa (Am h λd μ1 ⟨b,e,z⟩=>by
 subst e;refine Aa (Bd ?_);cases b
 ·exact Bd (z.2 rfl)
 ·exact z.1 rfl)
noncomputable def UU(m2:Sl->M (Fl×Sl))(QS:Fl×Sl->Mh->Prop):Fl×Sl->Mh->Prop
 |(.next,τ1),μ1=>WP (m2 τ1) μ1 QS
 |r,μ1=>QS r μ1
theorem Ax(h:WP (m2 τ1) μ1 QS):UU m2 QS (.next,τ1) μ1:=h
theorem HX(h:QS (.rt d,τ1) μ1):UU m2 QS (.rt d,τ1) μ1:=h
theorem A0(h:WP (m1 τ) μ (UU m2 QS)):WP (AQ m1 m2 τ) μ QS:=Aa (Am h λr _ z=>by
 obtain⟨fl,τ1⟩:=r;cases fl
 ·exact z
 ·exact Bd z
 ·exact Bd z
 ·exact Bd z
 ·exact Bd z)
theorem C6{i:Nat}(h:WP (ma τ) μ λd μ1=>QS (.next,τ.set i (some d)) μ1):WP (As ma (AM i) τ) μ QS:=Aa (Am h λ_ _ q=>Aa (Bd (Bd q)))
theorem FH(h:WP (ma τ) μ λd μ1=>QS (.rt d,τ) μ1):WP (Ar ma τ) μ QS:=Aa (Am h λ_ _ q=>Bd q)
theorem Cf(h:WP (ma τ) μ λ_ μ1=>QS (.next,τ) μ1):WP (Ag ma τ) μ QS:=Aa (Am h λ_ _ q=>Bd q)
theorem JC(q:QS (.next,τ) μ):WP (A1 τ) μ QS:=⟨_,μ,rfl,q⟩
noncomputable def ifK(m1 m2:Sl->M (Fl×Sl))(τ:Sl)(QS:Fl×Sl->Mh->Prop):Bool->Mh->Prop
 |true,μ=>WP (m1 τ) μ QS
 |false,μ=>WP (m2 τ) μ QS
theorem G1(h:WP (m1 τ) μ QS):ifK m1 m2 τ QS true μ:=h
theorem DG(h:WP (m2 τ) μ QS):ifK m1 m2 τ QS false μ:=h
theorem CP(h:WP (tc τ) μ (ifK m1 m2 τ QS)):WP (sIf tc m1 m2 τ) μ QS:=Aa (Am h λb _ z=>by cases b;exact z;exact z)
theorem JE(h:WP (src τ) μ λds μ1=>WP (Ba bf m1 ds τ) μ1 QS):WP (Du src bf m1 τ) μ QS:=Aa h
noncomputable def Vj(I:Sl->Mh->Prop)(QS:Fl×Sl->Mh->Prop):Fl×Sl->Mh->Prop
 |(.next,τ),μ=>I τ μ
 |(.cont,τ),μ=>I τ μ
 |(.brk,τ),μ=>QS (.next,τ) μ
 |(.rt d,τ),μ=>QS (.rt d,τ) μ
 |(.xc x,τ),μ=>QS (.xc x,τ) μ
theorem By(h:I τ μ):Vj I QS (.next,τ) μ:=h
theorem Fo(I:List D->Sl->Mh->Prop)(step:∀x xs τ μ,I (x::xs) τ μ->WP (bf x τ) μ λτ1 μ1=>WP (m1 τ1) μ1 (Vj (I xs) QS))(fin:∀τ μ,I [] τ μ->QS (.next,τ) μ):∀{ds:List D} {τ:Sl} {μ:Mh},I ds τ μ->WP (Ba bf m1 ds τ) μ QS
 |[],τ,μ,h=>Bd (fin τ μ h)
 |x::xs,τ,μ,h=>Aa (Am (step x xs τ μ h) λτ1 μ1 z=>Aa (Am z λr μ2 z=>by
   obtain⟨fl,τ2⟩:=r;cases fl
   ·exact Fo I step fin z
   ·exact Bd z
   ·exact Fo I step fin z
   ·exact Bd z
   ·exact Bd z))
theorem BN{QT:Sl->Mh->Prop}{i:Nat}(q:QT (τ.set i (some d)) μ):WP (AM i d τ) μ QT:=⟨_,μ,rfl,q⟩
theorem KL{QT:Sl->Mh->Prop}{i j:Nat}(q:QT ((τ.set i (some x)).set j (some y)) μ):WP (DT [i,j] (.tup [x,y]) τ) μ QT:=⟨_,μ,rfl,q⟩
theorem UE{QT:Sl->Mh->Prop}{i j k:Nat}(q:QT (((τ.set i (some x)).set j (some y)).set k (some d)) μ):WP (DT [i,j,k] (.tup [x,y,d]) τ) μ QT:=⟨_,μ,rfl,q⟩
theorem Fm(h:WP (src τ) μ λds μ1=>ds.length<=sizeLine/\WP (Cb bf tc ma (BR N ix τ) ds []) μ1 λes μ2=>WP (fin es) μ2 QD):WP (Bi N ix src bf tc ma fin τ) μ QD:=Aa (Am h λds μ1 z=>Aa (Aw (JO z.1 μ1) (Aa z.2)))
theorem Mt(I:List D->List D->Mh->Prop)(step:∀x xs ys μ,I (x::xs) ys μ->WP (bf x τ0) μ λτ1 μ1=>WP (tc τ1) μ1 λc μ2=>(c=true->WP (ma τ1) μ2 λy μ3=>I xs (ys++[y]) μ3)/\(c=false->I xs ys μ2))(fin:∀ys μ,I [] ys μ->QL ys μ):∀{ds ys:List D} {μ:Mh},I ds ys μ->WP (Cb bf tc ma τ0 ds ys) μ QL
 |[],ys,μ,h=>Bd (fin ys μ h)
 |x::xs,ys,μ,h=>Aa (Am (step x xs ys μ h) λτ1 μ1 z=>Aa (Am z λc μ2 z=>by
   cases c
   ·exact Mt I step fin (z.2 rfl)
   ·exact Aa (Am (z.1 rfl) λy μ3 z=>Mt I step fin z)))
theorem E6(q:QB true μ):WP (Bu τ) μ QB:=⟨true,μ,rfl,q⟩
theorem Y3(q:QD (.int (i-j)) μ):WP (Em (.int i) (.int j)) μ QD:=⟨_,μ,rfl,q⟩
theorem T5(q:QD (.bl (decide (i<j))) μ):WP (Ez (.int i) (.int j)) μ QD:=⟨_,μ,rfl,q⟩
theorem YZ(q:QD (.bl (decide (j<i))) μ):WP (M7 (.int i) (.int j)) μ QD:=⟨_,μ,rfl,q⟩
theorem Ya(q:QD (.bl (decide (j<=i))) μ):WP (U6 (.int i) (.int j)) μ QD:=⟨_,μ,rfl,q⟩
theorem UD(q:QD (.bl (i==j)) μ):WP (A3 (.int i) (.int j)) μ QD:=⟨_,μ,rfl,q⟩
theorem T3(q:QD (.bl (!(i==j))) μ):WP (Cj (.int i) (.int j)) μ QD:=⟨_,μ,rfl,q⟩
theorem T7(q:QD (.bl (isN d)) μ):WP (FL false d .non) μ QD:=by cases d<;>exact⟨_,μ,rfl,q⟩
theorem IK(h:ds.length<=sizeLine)(q:QD (.tup ds) μ):WP (BU ds) μ QD:=by
 refine Aw (a:=.tup ds) (μ':=μ) ?_ q;unfold BU;rw[AO (JO h _)];rfl
theorem D8(h:ds.length<=sizeLine)(q:QD (.lst ds) μ):WP (BE ds) μ QD:=by
 refine Aw (a:=.lst ds) (μ':=μ) ?_ q;unfold BE;rw[AO (JO h _)];rfl
theorem IL(h:ds.length<=sizeLine)(q:QD (.ref μ.length) (μ++[.lst ds])):WP (Dq ds) μ QD:=by
 refine Aw (a:=.ref μ.length) (μ':=μ++[.lst ds]) ?_ q;unfold Dq;rw[AO (JO h _)]
theorem JD(h2:atI ds i=some d)(q:QD d μ):WP (AU (.tup ds) (.int i)) μ QD:=Aw (Ob h2) q
theorem T6(h2:atI ds i=some d)(q:QD d μ):WP (AU (.lst ds) (.int i)) μ QD:=Aw (Fb h2) q
theorem KK(h:WP (ma τ) μ λd μ1=>WP (HW d) μ1 QL):WP (Dw ma τ) μ QL:=Aa h
theorem Mo(q:QL ds μ):WP (HW (.tup ds)) μ QL:=⟨_,μ,rfl,q⟩
theorem Mp(q:QL ds μ):WP (HW (.lst ds)) μ QL:=⟨_,μ,rfl,q⟩
theorem Qa(h:WP (ra τ) μ λds μ1=>∃j:Nat,ds=[.int j]/\j<1000000/\QL ((List.range j).map λ(i:Nat)=>.int (i:Int)) μ1):WP (Ig ra τ) μ QL:=Aa (Am h λds μ1 ⟨j,e,hj,q⟩=>by
 subst e;refine Aw (a:=GX 0 j) (μ':=μ1) ?_ ?_
 ·have hj2:-(2 ^ 62)<=(j:Int)/\(j:Int)<2 ^ 62:=⟨by omega,by omega⟩;unfold OJ;simp only[];rw[if_pos hj2]
 ·have e:GX 0 (j:Int)=(List.range j).map λ(i:Nat)=>.int (i:Int):=by
   unfold GX;rw[show ((j:Int)-0).toNat=j by omega];congr 1
   funext i
   rw[Int.zero_add]
  rw[e];exact q)
theorem QZ(q:QD (.tup ds) μ):WP (C8 [.lst ds]) μ QD:=⟨_,μ,rfl,q⟩
theorem QY(h:μ[n]?=some (.lst ds))(q:QD (.tup ds) μ):WP (C8 [.ref n]) μ QD:=by
 refine Aw (a:=.tup ds) (μ':=μ) ?_ q;show bnd (Bs (.ref n)) (λds=>ret (D.tup ds)) μ=_;rw[AO (show Bs (.ref n) μ=some (ds,μ) from by show (match μ[n]? with|some (.lst ds)=>some (ds,μ)|_=>none)=_;rw[h])];rfl
theorem Wr(q:QD (.int ds.length) μ):WP (Bq [.tup ds]) μ QD:=⟨_,μ,rfl,q⟩
theorem E7{gs:Mh}{i:Nat}(ht:τ[i]?=some (some (.ref gs.length)))(hs:ds.length<sizeLine)(h:WP (ra τ) (gs++[.lst ds]) λes μ1=>∃gs' y,es=[y]/\μ1=gs'++[.lst ds]/\gs'.length=gs.length/\QD .non (gs'++[.lst (ds++[y])])):WP (BB FQ (AD i) ra τ) (gs++[.lst ds]) QD:=by
 unfold BB;refine Aa (Aw (Dj ht) ?_);have hg:Dz (.ref gs.length) (gs++[.lst ds])=some ((),gs++[.lst ds]):=by
  unfold Dz;rw[AO (show Bs (.ref gs.length) (gs++[.lst ds])=some (ds,gs++[.lst ds]) from by show (match (gs++[MO.lst ds])[gs.length]? with|some (.lst ds')=>some (ds',gs++[MO.lst ds])|_=>none)=some (ds,gs++[MO.lst ds]);rw[AAR (AAE _)];simp)];rfl
 refine Aa (Aw hg (Aa (Am h ?_)));rintro es μ1 ⟨gs',y,rfl,rfl,hl,q⟩;refine Aw (a:=.non) (μ':=gs'++[.lst (ds++[y])]) ?_ q;show FI gs.length (λds=>if ds.length<sizeLine then some (.non,ds++[y]) else none) (gs'++[.lst ds])=_;unfold FI;rw[←hl,AAR (AAE _)];simp[hs]
theorem Fp{N ps:Nat}{mb:Sl->M (Fl×Sl)}(hl:ds.length=ps)(h:WP (mb (BQ N ds)) μ λr μ2=>∃d τ2 gs,r=(.rt d,τ2)/\μ2=μ++gs/\Cl μ.length d/\QD d μ):WP (BF .drop N ps mb ds) μ QD:=by
 obtain⟨r,μ2,e,d,τ2,gs,rfl,rfl,c,q⟩:=h;exact Aw (BL e hl c) q
end
mutual
def Pz:D->Prop
 | .non=>True
 | .int _=>True
 | .str x=>PyData.strOk x=true
 | .tup ds=>PzL ds
 | .lst ds=>PzL ds
 |_=>False
def PzL:List D->Prop
 |[]=>True
 |d::ds=>Pz d/\PzL ds
end
mutual
def dpt:D->Nat
 | .tup ds=>Nc ds+1
 | .lst ds=>Nc ds+1
 |_=>0
def Nc:List D->Nat
 |[]=>0
 |d::ds=>max (dpt d) (Nc ds)
end
mutual
def toZ:D->PyData
 | .int i=>.int i
 | .str x=>.str x
 | .tup ds=>.tuple (Ey ds)
 | .lst ds=>.list (Ey ds)
 |_=>.none
def Ey:List D->List PyData
 |[]=>[]
 |d::ds=>toZ d::Ey ds
end
mutual
theorem PZ(μ:Mh):∀{d:D},Pz d->toP μ d=some (toZ d)
 | .non,_=>rfl
 | .int _,_=>rfl
 | .str _,_=>rfl
 | .tup ds,h=>by unfold Pz at h;unfold toP toZ;rw[Mx μ h];rfl
 | .lst ds,h=>by unfold Pz at h;unfold toP toZ;rw[Mx μ h];rfl
 | .bl _,h | .ty _,h | .scr _,h | .ref _,h=>by unfold Pz at h;exact h.elim
theorem Mx(μ:Mh):∀{ds:List D},PzL ds->GG μ ds=some (Ey ds)
 |[],_=>by unfold GG Ey;rfl
 |d::ds,h=>by
  unfold PzL at h;unfold GG Ey;rw[PZ μ h.1,Mx μ h.2];rfl
end
mutual
theorem Mw:∀{d:D},Pz d->PyData.canLay0 (toZ d)=true/\PyData.depth (toZ d)=dpt d
 | .non,_=>⟨rfl,rfl⟩
 | .int _,_=>⟨rfl,rfl⟩
 | .str _,h=>by unfold Pz at h;exact⟨h,rfl⟩
 | .tup ds,h=>by
  unfold Pz at h;obtain⟨h1,h2⟩:=KU h;unfold toZ dpt;exact⟨h1,by show PyData.depthAll (Ey ds)+1=_;rw[h2]⟩
 | .lst ds,h=>by
  unfold Pz at h;obtain⟨h1,h2⟩:=KU h;unfold toZ dpt;exact⟨h1,by show PyData.depthAll (Ey ds)+1=_;rw[h2]⟩
 | .bl _,h | .ty _,h | .scr _,h | .ref _,h=>by unfold Pz at h;exact h.elim
theorem KU:∀{ds:List D},PzL ds->PyData.canLayAll0 (Ey ds)=true/\PyData.depthAll (Ey ds)=Nc ds
 |[],_=>by unfold Ey Nc;exact⟨rfl,rfl⟩
 |d::ds,h=>by
  unfold PzL at h;obtain⟨h1,h2⟩:=Mw h.1;obtain⟨h3,h4⟩:=KU h.2;unfold Ey Nc;refine⟨?_,?_⟩
  ·show (PyData.canLay0 (toZ d)&&PyData.canLayAll0 (Ey ds))=true;rw[h1,h3];rfl
  ·show max (PyData.depth (toZ d)) (PyData.depthAll (Ey ds))=_;rw[h2,h4]
end
mutual
theorem eqZ:∀{a b:D},Pz a->Pz b->(PyData.eqv (toZ a) (toZ b)=true↔a=b)
 | .non,b,_,hb=>by
  cases b<;>first|exact⟨λ_=>rfl,λ_=>rfl⟩|(unfold Pz at hb;exact hb.elim)|(unfold toZ;exact⟨λz=>(by cases z),λz=>(by cases z)⟩)
 | .int i,b,_,hb=>by
  cases b with
  |int j=>exact⟨λz=>by have:(i==j)=true:=z;rw[beq_iff_eq.mp this],λz=>by cases z;show (i==i)=true;simp⟩
  |_=>first|(unfold Pz at hb;exact hb.elim)|(unfold toZ;exact⟨λz=>(by cases z),λz=>(by cases z)⟩)
 | .str i,b,_,hb=>by
  cases b with
  |str j=>exact⟨λz=>by have:(i==j)=true:=z;rw[beq_iff_eq.mp this],λz=>by cases z;show (i==i)=true;simp⟩
  |_=>first|(unfold Pz at hb;exact hb.elim)|(unfold toZ;exact⟨λz=>(by cases z),λz=>(by cases z)⟩)
 | .tup xs,b,ha,hb=>by
  cases b with
  |tup ys=>
   unfold Pz at ha hb;unfold toZ;have:=bE ha hb;exact⟨λz=>by rw[this.mp z],λz=>by cases z;exact this.mpr rfl⟩
  |_=>first|(unfold Pz at hb;exact hb.elim)|(unfold toZ;exact⟨λz=>(by cases z),λz=>(by cases z)⟩)
 | .lst xs,b,ha,hb=>by
  cases b with
  |lst ys=>
   unfold Pz at ha hb;unfold toZ;have:=bE ha hb;exact⟨λz=>by rw[this.mp z],λz=>by cases z;exact this.mpr rfl⟩
  |_=>first|(unfold Pz at hb;exact hb.elim)|(unfold toZ;exact⟨λz=>(by cases z),λz=>(by cases z)⟩)
 | .bl _,_,h,_ | .ty _,_,h,_ | .scr _,_,h,_ | .ref _,_,h,_=>by unfold Pz at h;exact h.elim
theorem bE:∀{as bs:List D},PzL as->PzL bs->(PyData.eqvAll (Ey as) (Ey bs)=true↔as=bs)
 |[],[],_,_=>by unfold Ey;exact⟨λ_=>rfl,λ_=>rfl⟩
 |[],_::_,_,_=>by unfold Ey;exact⟨λz=>(by cases z),λz=>(by cases z)⟩
 |_::_,[],_,_=>by unfold Ey;exact⟨λz=>(by cases z),λz=>(by cases z)⟩
 |a::as,b::bs,ha,hb=>by
  unfold PzL at ha hb;unfold Ey;have h1:=eqZ ha.1 hb.1;have h2:=bE ha.2 hb.2;show (PyData.eqv (toZ a) (toZ b)&&PyData.eqvAll (Ey as) (Ey bs))=true↔_;rw[Bool.and_eq_true,h1,h2];exact⟨λ⟨x,y⟩=>by rw[x,y],λz=>by cases z;exact⟨rfl,rfl⟩⟩
end
section
variable{μ:Mh}{a b:D}{QD:D->Mh->Prop}
theorem WC(ha:Pz a)(hb:Pz b)(da:dpt a<=64)(db:dpt b<=64):∃e:Bool,(e=true↔a=b)/\HM neg a b μ=some (.bl (if neg then !e else e),μ):=by
 refine⟨PyData.eqv (toZ a) (toZ b),eqZ ha hb,?_⟩;obtain⟨a1,a2⟩:=Mw ha;obtain⟨b1,b2⟩:=Mw hb;have s1:SeqAt.shaped (toZ a)=true:=by
  show (PyData.canLay0 (toZ a)&&decide (PyData.depth (toZ a)<=64))=true;rw[a1,AAO (by omega)];rfl
 have s2:SeqAt.shaped (toZ b)=true:=by
  show (PyData.canLay0 (toZ b)&&decide (PyData.depth (toZ b)<=64))=true;rw[b1,AAO (by omega)];rfl
 have e1:My μ a=some (toZ a):=by
  cases a with
  |ref n=>unfold Pz at ha;exact ha.elim
  |_=>exact PZ μ ha
 have e2:My μ b=some (toZ b):=by
  cases b with
  |ref n=>unfold Pz at hb;exact hb.elim
  |_=>exact PZ μ hb
 unfold HM;rw[e1,e2];exact if_pos ⟨s1,s2⟩
theorem UC(ha:Pz a)(hb:Pz b)(da:dpt a<=64)(db:dpt b<=64)(q:∀e:Bool,(e=true↔a=b)->QD (.bl e) μ):WP (A3 a b) μ QD:=by
 obtain⟨e,h1,h2⟩:=WC (μ:=μ) (neg:=false) ha hb da db;exact Aw h2 (q e h1)
theorem T2(ha:Pz a)(hb:Pz b)(da:dpt a<=64)(db:dpt b<=64)(q:∀e:Bool,(e=true↔a=b)->QD (.bl (!e)) μ):WP (Cj a b) μ QD:=by
 obtain⟨e,h1,h2⟩:=WC (μ:=μ) (neg:=true) ha hb da db;exact Aw h2 (q e h1)
end
end Mi
namespace Mi
section
variable{b:Bool}{i:Int}
theorem Be{P:Bool->Prop}(h:P b):∃b',D.bl b=D.bl b'/\P b':=⟨b,rfl,h⟩
theorem Wu{P:Int->Prop}(h:P i):∃i',D.int i=D.int i'/\P i':=⟨i,rfl,h⟩
end
end Mi
local macro_rules | `(tactic| wtm_at "k")=>`(tactic| first|assumption|decide|omega|exact Nat.le_of_ble_eq_true rfl)
local macro_rules | `(tactic| wtm_at "o")=>`(tactic| first
 |(with_reducible apply Mi.A0)|(with_reducible apply Mi.Ax)|(with_reducible apply Mi.C6)|(with_reducible apply Mi.FH)|(with_reducible apply Mi.HX)|(with_reducible apply Mi.Cf)|(with_reducible apply Mi.JC)|(with_reducible apply Mi.CP)|(with_reducible apply Mi.G1)|(with_reducible apply Mi.DG)|(with_reducible apply Mi.BI)|(with_reducible apply Mi.BV)|((with_reducible apply Mi.AT);rfl)|(with_reducible apply Mi.Af)|(with_reducible apply Mi.Ab)|(with_reducible apply Mi.Av)|(with_reducible apply Mi.EO)
 |(with_reducible apply Mi.A5)|(with_reducible apply Mi.Be)|(with_reducible apply Mi.Tz)|(with_reducible apply Mi.Y5)|(with_reducible apply Mi.bR)|(with_reducible apply Mi.JE)|(with_reducible apply Mi.Fm)|(with_reducible apply Mi.KK)|(with_reducible apply Mi.Mo)|(with_reducible apply Mi.Mp)|(with_reducible apply Mi.Qa)|(with_reducible apply Mi.Tx)|(with_reducible apply Mi.SG)|(with_reducible apply Mi.Mr)|(with_reducible apply Mi.Wu)
 |(with_reducible apply Mi.wq_add2)|(with_reducible apply Mi.wq_add)|(with_reducible apply Mi.Y3)|(with_reducible apply Mi.T5)|(with_reducible apply Mi.YZ)|(with_reducible apply Mi.Ya)|(with_reducible apply Mi.UD)|(with_reducible apply Mi.T3)|(with_reducible apply Mi.T7)|(with_reducible apply Mi.wq_isT)|(with_reducible apply Mi.wq_intB)|(with_reducible apply Mi.wq_neB)|(with_reducible apply Mi.wq_tupT)|(with_reducible apply Mi.QZ)|(with_reducible apply Mi.Wr)|(with_reducible apply Mi.E6)|(with_reducible apply Mi.BN)
 |((with_reducible apply Mi.wq_mod);(wtm_at "k"))|((with_reducible apply Mi.wq_fdiv);(wtm_at "k");(wtm_at "k"))|((with_reducible apply Mi.IK);(wtm_at "k"))|((with_reducible apply Mi.D8);(wtm_at "k"))|((with_reducible apply Mi.IL);(wtm_at "k"))|((with_reducible apply Mi.JD);rfl)|((with_reducible apply Mi.T6);rfl))
local macro_rules | `(tactic| wtm_at "x")=>`(tactic| repeat wtm_at "o")
namespace Mi
open PySem L2
section
variable{τ1:Sl}{μ μ1:Mh}{x y:D}{ma:Sl->M D}{tc:Sl->M Bool}{QD:D->Mh->Prop}{QL:List D->Mh->Prop}
theorem Ei{α:Type}(f:α->D)(p:α->Bool)(F:α->D){bf:D->Sl->M Sl}{xs:List α}(h:∀a∈xs,WP (bf (f a) τ0) μ λτ1 μ1=>μ1=μ/\WP (tc τ1) μ λc μ2=>c=p a/\μ2=μ/\(p a=true->WP (ma τ1) μ λy μ3=>y=F a/\μ3=μ))(q:QL ((xs.filter p).map F) μ):WP (Cb bf tc ma τ0 (xs.map f) []) μ QL:=by
 refine Mt (I:=λrest ys μ'=>∃a b,a++b=xs/\rest=b.map f/\ys=(a.filter p).map F/\μ'=μ) (λz zs ys μ' hI=>?_) (λys μ' hI=>?_) ⟨[],xs,rfl,rfl,rfl,rfl⟩
 ·obtain⟨a,b,hab,hr,rfl,rfl⟩:=hI;cases b with
  |nil=>cases hr
  |cons w b=>
   rw[AAW] at hr;obtain⟨e1,e2⟩:=List.cons.inj hr;subst e1;have hw:w∈xs:=by rw[←hab];simp
   refine Am (h w hw) λτ1 μ1 ⟨e,z⟩=>?_;subst e;refine Am z λc μ2 ⟨e3,e4,z2⟩=>?_;subst e3 e4;refine⟨λhc=>Am (z2 hc) λy μ3 ⟨e5,e6⟩=>?_,λhc=>?_⟩
   ·subst e5 e6;exact⟨a++[w],b,by rw[←hab];simp,e2,by rw[List.filter_append,AAX,List.filter_cons_of_pos hc];rfl,rfl⟩
   ·exact⟨a++[w],b,by rw[←hab];simp,e2,by rw[List.filter_append,AAX,List.filter_cons_of_neg (by rw[hc];exact AAf)];simp,rfl⟩
 ·obtain⟨a,b,hab,hr,rfl,rfl⟩:=hI;cases b with
  |cons w b=>cases hr
  |nil=>
   rw[AAY] at hab;subst hab;exact q
theorem Ng:∀xs:List α,Hz (xs.map λa=>D.bl (f a))=some (xs.map f)
 |[]=>rfl
 |x::xs=>by rw[AAW];unfold Hz;rw[Ng xs];rfl
theorem UF{α:Type}{f:α->Bool}{xs:List α}(q:QD (.bl (xs.all f)) μ):WP (O7 [.lst (xs.map λa=>D.bl (f a))]) μ QD:=by
 refine Aw (a:=.bl (xs.all f)) (μ':=μ) ?_ q;show (Hz (xs.map λa=>D.bl (f a))).map _=_;rw[Ng];show some (D.bl ((xs.map f).all id),μ)=_;rw[List.all_map];rfl
theorem Ms{x y:Str}(h1:PyData.strOk x=true)(h2:PyData.strOk y=true)(q:QD (.bl (x==y)) μ):WP (A3 (.str x) (.str y)) μ QD:=by
 refine UC (by unfold Pz;exact h1) (by unfold Pz;exact h2) (by show 0<=64;omega) (by show 0<=64;omega) λe he=>?_;have:e=(x==y):=by
  rw[Bool.eq_iff_iff,he,beq_iff_eq];exact⟨λz=>by cases z;rfl,λz=>by rw[z]⟩
 rw[this];exact q
end
theorem Ap(hl:Nat.beq ds.length ps=true)(h:WP (mb (BQ N ds)) μ λr μ2=>∃d τ2,r=(.rt d,τ2)/\QD d μ2):WP (Cw .all N ps mb ds) μ QD:=by
 obtain⟨r,μ2,e,d,τ2,rfl,q⟩:=h;refine Aw (a:=d) (μ':=μ2) ?_ q;unfold Cw;rw[hl,e];rfl
end Mi
namespace K21
open PySem L2 Mi
end K21
namespace Mi
open PySem L2
end Mi
namespace K21
open PySem L2 Mi
end K21
namespace K41
open PySem L2 Mi
end K41
namespace K41
open PySem L2 Mi Ht Nk Hs
end K41
namespace Mi
open PySem L2
end Mi
namespace K41
open PySem L2 Mi Ht Nk Hs
end K41
namespace K21
open PySem L2 Mi
end K21
namespace Mi
open PySem L2
end Mi
namespace K21
open PySem L2 Mi
end K21
namespace Mi
open PySem L2
end Mi
namespace K21
open PySem L2 Mi
end K21
namespace K21
open PySem L2 Mi Xt
end K21
namespace K21
open PySem L2 Mi
end K21
namespace Mi
open PySem L2
end Mi
namespace K21
open PySem L2 Mi
end K21
namespace Mi
open PySem L2
end Mi
namespace K21
open PySem L2 Mi
end K21
namespace Mi
open PySem L2
section
variable{τ:Sl}{μ μ1:Mh}{d x y:D}{ds:List D}{ma mb:Sl->M D}{ra:Sl->M (List D)}{QD:D->Mh->Prop}{QB:Bool->Mh->Prop}{i j:Int}
theorem II{x y:Str}(h1:PyData.strOk x=true)(h2:PyData.strOk y=true)(h:(x==y)=true)(q:QD (.bl true) μ):WP (A3 (.str x) (.str y)) μ QD:=Ms h1 h2 (by rw[h];exact q)
theorem CD{x y:Str}(h1:PyData.strOk x=true)(h2:PyData.strOk y=true)(h:(x==y)=false)(q:QD (.bl false) μ):WP (A3 (.str x) (.str y)) μ QD:=Ms h1 h2 (by rw[h];exact q)
theorem Wk{x y:Str}(h1:PyData.strOk x=true)(h2:PyData.strOk y=true)(q:QD (.bl (!(x==y))) μ):WP (Cj (.str x) (.str y)) μ QD:=by
 refine T2 (by unfold Pz;exact h1) (by unfold Pz;exact h2) (by show 0<=64;omega) (by show 0<=64;omega) λe he=>?_;have:e=(x==y):=by
  rw[Bool.eq_iff_iff,he,beq_iff_eq];exact⟨λz=>by cases z;rfl,λz=>by rw[z]⟩
 rw[this];exact q
theorem Mm{x y:Str}(h1:PyData.strOk x=true)(h2:PyData.strOk y=true)(h:(x==y)=true)(q:QD (.bl false) μ):WP (Cj (.str x) (.str y)) μ QD:=Wk h1 h2 (by rw[h];exact q)
theorem Tu(h:i=j)(q:QD (.bl true) μ):WP (A3 (.int i) (.int j)) μ QD:=UD (by rw[beq_iff_eq.mpr h];exact q)
theorem Tq(h:i=j)(q:QD (.bl false) μ):WP (Cj (.int i) (.int j)) μ QD:=T3 (by rw[beq_iff_eq.mpr h];exact q)
theorem J2(h:i<j)(q:QD (.bl true) μ):WP (Ez (.int i) (.int j)) μ QD:=T5 (by rw[AAO h];exact q)
theorem QV(h:¬i<j)(q:QD (.bl false) μ):WP (Ez (.int i) (.int j)) μ QD:=T5 (by rw[AAN h];exact q)
theorem QW(h:j<i)(q:QD (.bl true) μ):WP (M7 (.int i) (.int j)) μ QD:=YZ (by rw[AAO h];exact q)
theorem Wn(h:j<=i)(q:QD (.bl true) μ):WP (U6 (.int i) (.int j)) μ QD:=Ya (by rw[AAO h];exact q)
theorem Tt(q:QD (.bl true) μ):WP (FL false .non .non) μ QD:=⟨_,μ,rfl,q⟩
theorem Ts(q:QD (.bl false) μ):WP (FL true .non .non) μ QD:=⟨_,μ,rfl,q⟩
theorem Wm(q:QD (.bl b) μ):WP (FL b (.tup ds) .non) μ QD:=by cases b<;>exact⟨_,μ,rfl,q⟩
theorem Tv(h:WP m μ QB):bK m QB true μ:=h
theorem Tw(h:QB false μ):bK m QB false μ:=h
theorem Wi(h:QB true μ):orK m QB true μ:=h
theorem Wj(h:WP m μ QB):orK m QB false μ:=h
noncomputable def aL(m1 m2:M D)(QD:D->Mh->Prop):Bool->Mh->Prop
 |true,μ=>WP m1 μ QD
 |false,μ=>WP m2 μ QD
theorem Mn(h:WP (mc τ) μ (aL (ma τ) (mb τ) QD)):WP (mIf mc ma mb τ) μ QD:=Y4 (Am h λb _ z=>by cases b;exact⟨λe=>(nomatch e),λ_=>z⟩;exact⟨λ_=>z,λe=>(nomatch e)⟩)
theorem Tr(h:WP m1 μ QD):aL m1 m2 QD true μ:=h
theorem Nx(h:WP m2 μ QD):aL m1 m2 QD false μ:=h
noncomputable def Yz(m:M D)(QD:D->Mh->Prop):D->Mh->Prop
 | .bl true,μ=>WP m μ QD
 | .bl false,μ=>QD (.bl false) μ
 |_,_=>False
theorem Ny(h:WP (ma τ) μ (Yz (mb τ) QD)):WP (Dt ma mb τ) μ QD:=Wt (Am h λd μ1 z=>by
 match d,z with
 | .bl true,z=>exact⟨true,rfl,λ_=>z,λe=>(nomatch e)⟩
 | .bl false,z=>exact⟨false,rfl,λe=>(nomatch e),λ_=>z⟩)
theorem JB(h:WP m μ QD):Yz m QD (.bl true) μ:=h
theorem R8(h:WP (ma τ) μ λx μ1=>WP (mb τ) μ1 λy μ2=>WP (g x y) μ2 λz μ3=>z=.bl true/\WP (mc τ) μ3 λv μ4=>WP (g' y v) μ4 QD):WP (Er g g' ma mb mc τ) μ QD:=by
 unfold Er;refine Aa (Am h λx μ1 h=>Aa (Am h λy μ2 h=>Aa (Am h λz μ3 ⟨e,h⟩=>?_)));subst e;refine Aa (Bd ?_);rw[if_pos rfl];exact Aa h
theorem Wl(h:i<=j)(q:QD (.bl true) μ):WP (Kt (.int i) (.int j)) μ QD:=⟨.bl (decide (i<=j)),μ,rfl,by rw[AAO h];exact q⟩
theorem J3(h:μ[n]?=some (.ins c l))(hl:l.lookup f=some d)(q:QD d μ):WP (Et c f (.ref n)) μ QD:=by
 refine Aw (a:=d) (μ':=μ) ?_ q;unfold Et LTq;show bnd (λμ=>match μ[n]? with|some (.ins c' l)=>if c'=c then some ((n,l),μ) else none|_=>none) _ μ=_;rw[AO (show (match μ[n]? with|some (.ins c' l)=>if c'=c then some ((n,l),μ) else none|_=>none)=some ((n,l),μ) from by rw[h];exact if_pos rfl)];show (l.lookup f).map _=_;rw[hl];rfl
theorem KH(ht:τ[k]?=some (some (.ref n)))(h:μ[n]?=some (.ins c l))(hl:l.lookup m=none)(q:WP (ra τ) μ λds μ1=>WP (φ (.ref n::ds)) μ1 QD):WP (F3 c m φ (AD k) ra τ) μ QD:=by
 unfold F3;refine Aa (AT ht ?_);refine Aa (Aw (a:=(n,l)) (μ':=μ) ?_ ?_)
 ·unfold LTq;dsimp only;rw[h];exact if_pos rfl
 ·rw[if_pos hl];exact Aa q
end
end Mi
local macro_rules | `(tactic| wtm_at "g")=>`(tactic| (decide +kernel))
local macro_rules | `(tactic| wtm_at "i")=>`(tactic| first|omega|(focus (simp;done)))
local macro_rules | `(tactic| wtm_at "q")=>`(tactic| first
 |((with_reducible apply Mi.CD);(wtm_at "g");(wtm_at "g");(wtm_at "g"))|((with_reducible apply Mi.II);(wtm_at "g");(wtm_at "g");(wtm_at "g"))|((with_reducible apply Mi.wqa_neT);(wtm_at "g");(wtm_at "g");(wtm_at "g"))|((with_reducible apply Mi.Mm);(wtm_at "g");(wtm_at "g");(wtm_at "g"))
 |((with_reducible apply Mi.Tu);(wtm_at "i"))|((with_reducible apply Mi.wqa_eqIF);(wtm_at "i"))|((with_reducible apply Mi.wqa_neIT);(wtm_at "i"))|((with_reducible apply Mi.Tq);(wtm_at "i"))|((with_reducible apply Mi.J2);(wtm_at "i"))|((with_reducible apply Mi.QV);(wtm_at "i"))|((with_reducible apply Mi.QW);(wtm_at "i"))|((with_reducible apply Mi.wqa_gtF);(wtm_at "i"))|((with_reducible apply Mi.Wn);(wtm_at "i"))|((with_reducible apply Mi.wqa_geF);(wtm_at "i"))|((with_reducible apply Mi.Wl);(wtm_at "i"))
 |(with_reducible apply Mi.Tt)|(with_reducible apply Mi.Ts)|(with_reducible apply Mi.wqa_isI)|(with_reducible apply Mi.Wm)|(with_reducible apply Mi.Tv)|(with_reducible apply Mi.Tw)|(with_reducible apply Mi.Wi)|(with_reducible apply Mi.Wj)|(with_reducible apply Mi.Mn)|(with_reducible apply Mi.Tr)|(with_reducible apply Mi.Nx)|(with_reducible apply Mi.Ny)|(with_reducible apply Mi.JB)|(with_reducible apply Mi.wqa_andVF)|(with_reducible apply Mi.wqa_orV)|(with_reducible apply Mi.wqa_orVT)|(with_reducible apply Mi.wqa_orVF)|(with_reducible apply Mi.R8)
 |wtm_at "o")
local macro_rules | `(tactic| wtm_at "v")=>`(tactic| repeat wtm_at "q")
namespace Xc
open PySem L2 Mi
end Xc
local macro_rules | `(tactic| wtm_at "p")=>`(tactic| first
 |(with_reducible apply Xc.wx_exprX)|(with_reducible apply Xc.wx_dispX)|(with_reducible apply Xc.wxk_l)|(with_reducible apply Xc.wxk_r)|(with_reducible apply Xc.wxk_next)|(with_reducible apply Xc.wxk_xc)|(with_reducible apply Mi.wkk_xc)|(with_reducible apply Mi.By)|(with_reducible apply Mi.wkk_loopX)|(with_reducible apply Mi.wkk_loopR)
 |wtm_at "q")
local macro_rules | `(tactic| wtm_at "AA")=>`(tactic| repeat wtm_at "p")
namespace K3
open PySem L2 Mi K1 Xc
section
variable{μ:Mh}{d:D}
theorem pureT(e:mb (BQ N ds) μ=some ((.rt d,BQ N ds),μ))(hl:ds.length=ps)(c:Cl μ.length d):BF .drop N ps mb ds μ=some (d,μ):=BL (g:=[]) (by rw[AAY];exact e) hl c
end
end K3
namespace K5
open PySem L2 Mi K1
theorem WV:∀{x x' r r':List Nat},c∉x->c∉x'->x++c::r=x'++c::r'->x=x'/\r=r'
 |[],[],_,_,_,_,e=>⟨rfl,(List.cons.inj e).2⟩
 |[],b::x',_,_,_,h',e=>absurd (List.cons.inj e).1 (λz=>h' (by rw[z];exact AAP))
 |a::x,[],_,_,h,_,e=>absurd (List.cons.inj e).1 (λz=>h (by rw[←z];exact AAP))
 |a::x,b::x',_,_,h,h',e=>by
  obtain⟨e1,e2⟩:=List.cons.inj e;obtain⟨z1,z2⟩:=WV (λz=>h (AAQ _ z)) (λz=>h' (AAQ _ z)) e2;exact⟨by rw[e1,z1],z2⟩
def HG(c:Nat)(x:Str):Prop:=c∉x.cps.toList
theorem Iu(x y:Str):(x++y).cps.toList=x.cps.toList++y.cps.toList:=by
 show (x.cps++y.cps).toList=_;simp
theorem M2{x y:Str}(h:x.cps.toList=y.cps.toList):x=y:=Str.ext' (Array.toList_inj.mp h)
theorem Ed(x y:Str)(r:List Str):(Str.join ⟨#[c]⟩ (x::y::r)).cps.toList=x.cps.toList++c::(Str.join ⟨#[c]⟩ (y::r)).cps.toList:=by
 show (x++⟨#[c]⟩++Str.join ⟨#[c]⟩ (y::r)).cps.toList=_;rw[Iu,Iu];simp
theorem Od{c:Nat}:∀{as bs:List Str},as≠[]->bs≠[]->(∀a∈as,HG c a)->(∀b∈bs,HG c b)->Str.join ⟨#[c]⟩ as=Str.join ⟨#[c]⟩ bs->as=bs
 |[],_,h,_,_,_,_=>absurd rfl h
 |_,[],_,h,_,_,_=>absurd rfl h
 |[a],[b],_,_,_,_,e=>by rw[show a=b from e]
 |[a],b::b'::r,_,_,ha,_,e=>by
  have z:=congrArg (λs:Str=>s.cps.toList) e;have z:a.cps.toList=_:=z;rw[Ed] at z;exact absurd (show c∈a.cps.toList by rw[z];simp) (ha a AAP)
 |a::a'::r,[b],_,_,_,hb,e=>by
  have z:=congrArg (λs:Str=>s.cps.toList) e.symm;have z:b.cps.toList=_:=z;rw[Ed] at z;exact absurd (show c∈b.cps.toList by rw[z];simp) (hb b AAP)
 |a::a'::r,b::b'::s,_,_,ha,hb,e=>by
  have z:=congrArg (λs:Str=>s.cps.toList) e;have z:(Str.join ⟨#[c]⟩ (a::a'::r)).cps.toList=(Str.join ⟨#[c]⟩ (b::b'::s)).cps.toList:=z;rw[Ed,Ed] at z;obtain⟨z1,z2⟩:=WV (ha a AAP) (hb b AAP) z;rw[M2 z1,Od (by simp) (by simp) (λx hx=>ha x (AAQ _ hx)) (λx hx=>hb x (AAQ _ hx)) (M2 z2)]
theorem Ub(x y:Str):Txt.split x y≠[]:=by
 unfold Txt.split;split
 ·simp
 ·split
  ·simp
  ·intro h;have:=congrArg List.length h;rw[PyProof.Rows.len_partsBetween] at this;simp at this
theorem Pb(h:ws≠[])(hf:∀w∈ws,HG c w):Txt.split (Str.join ⟨#[c]⟩ ws) ⟨#[c]⟩=ws:=
 Od (Ub _ _) h (StrLaws.split_free _ c) hf (StrLaws.join_split _ _)
theorem OD:(" " : Str)=⟨#[32]⟩:=by decide +kernel
theorem Vc:("\n" : Str)=⟨#[10]⟩:=by decide +kernel
theorem X5(s:Str)(ws:List Str):Txt.join s ws=Str.join s ws:=StrLaws.glued_eq_join s ws
theorem A6(x y:Str):(x++y).length=x.length+y.length:=by
 have:=congrArg List.length (Iu x y);rw[AAG] at this;simpa[Str.length] using this
theorem LC:∀{ws:List Str},(∀w∈ws,w.length<=B)->(Str.join ⟨#[c]⟩ ws).length<=ws.length * (B+1)
 |[],_=>AAi _
 |[x],h=>by
  have:=h x AAP;show x.length<=1 * (B+1);omega
 |x::y::r,h=>by
  have:=h x AAP;have ih:=LC (c:=c) (ws:=y::r) λw hw=>h w (AAQ _ hw);show (x++⟨#[c]⟩++Str.join ⟨#[c]⟩ (y::r)).length<=_;rw[A6,A6,AAH,Nat.add_mul];show x.length+1+_<=_;omega
theorem N8:∀{ws:List Str},(∀w∈ws,w.length<=B)->(ws.map (·.length)).sum<=ws.length * B
 |[],_=>AAi _
 |x::r,h=>by
  have:=h x AAP;have ih:=N8 (ws:=r) λw hw=>h w (AAQ _ hw);rw[AAW,List.sum_cons,AAH,Nat.add_mul];omega
theorem al(h:∀w∈ws,w.length<=B)(hz:ws.length * (B+1)<=sizeLine):JoinOk ⟨#[c]⟩ ws=true:=by
 unfold JoinOk;rw[StrLaws.joinTotal];have:=N8 h;have e:ws.length * (B+1)=ws.length * B+ws.length:=by rw[Nat.mul_add,Nat.mul_one]
 unfold Builtin.Str.tooLong;rw[Bool.not_eq_true',decide_eq_false_iff_not];show ¬(ws.map (·.length)).sum+ws.length * 1 > sizeLine;omega
theorem MP(hcd:c≠d):∀{ws:List Str},(∀w∈ws,HG c w)->HG c (Str.join ⟨#[d]⟩ ws)
 |[],_=>by unfold HG;show c∉[];simp
 |[x],h=>h x AAP
 |x::y::r,h=>by
  have ih:=MP hcd (ws:=y::r) λw hw=>h w (AAQ _ hw);unfold HG at ih ⊢;rw[Ed];intro z;rcases AAJ.mp z with z|z
  ·exact h x AAP z
  ·rcases AAI.mp z with z|z
   ·exact hcd z
   ·exact ih z
section
variable{μ:Mh}{QD:D->Mh->Prop}{ws:List Str}{B:Nat}
theorem OB:∀xs:List Str,GC (xs.map D.str)=some xs
 |[]=>rfl
 |x::r=>by
  rw[AAW];unfold GC;rw[OB r];rfl
theorem Qb(hd:Bl d μ=some (ws.map D.str,μ))(hB:∀w∈ws,w.length<=B)(hz:ws.length * (B+1)<=sizeLine)(q:QD (.str (Str.join ⟨#[c]⟩ ws)) μ):WP (DY (.str ⟨#[c]⟩) [d]) μ QD:=by
 refine⟨_,μ,?_,q⟩;show bnd (Bl d) _ μ=_;rw[AO hd];show (match GC (ws.map D.str) with|some ts=>if JoinOk ⟨#[c]⟩ ts=true then some (D.str (Txt.join ⟨#[c]⟩ ts),μ) else none|none=>none)=_;rw[OB];show (if JoinOk ⟨#[c]⟩ ws=true then some (D.str (Txt.join ⟨#[c]⟩ ws),μ) else none)=_;rw[if_pos (al hB hz),X5]
theorem Nz(hn:ws≠[])(hf:∀w∈ws,HG c w)(hB:∀w∈ws,w.length<=B)(hz:ws.length * (B+1)+2<=sizeLine)(q:QD (.lst (ws.map D.str)) μ):WP (Hc (.str (Str.join ⟨#[c]⟩ ws)) [.str ⟨#[c]⟩]) μ QD:=by
 refine⟨_,μ,?_,q⟩;have hl:=LC (c:=c) hB;show (if (⟨#[c]⟩:Str).length≠0/\(Str.join ⟨#[c]⟩ ws).length+2<=sizeLine/\(Txt.split (Str.join ⟨#[c]⟩ ws) ⟨#[c]⟩).length<=sizeLine then some (D.lst ((Txt.split (Str.join ⟨#[c]⟩ ws) ⟨#[c]⟩).map D.str),μ) else none)=_;rw[Pb hn hf,if_pos ⟨by show 1≠0;decide,by omega,by have:=Nat.le_mul_of_pos_right ws.length (show 0<B+1 from Nat.succ_pos B);omega⟩]
end
abbrev toS(i:Int):Str:=Str.ofString (toString i)
theorem aI:∀m:Nat,m<1000->(1<=((Nat.toDigits 10 m).map Char.toNat).length/\((Nat.toDigits 10 m).map Char.toNat).length<=3)/\(∀c∈(Nat.toDigits 10 m).map Char.toNat,48<=c/\c<58)/\(((Nat.toDigits 10 m).map Char.toNat).head?=some 48->m=0):=by decide +kernel
structure Fig(i:Int)(x:Str):Prop where
 lo:1<=x.length
 hi:x.length<=3
 sg:∀c∈x.cps.toList,48<=c/\c<58
 nz:x.cps.toList.head?=some 48->i=0
 val:PySem.intText? x=some i
 eq:x=toS i
theorem Fs(h0:0<=i)(h1:i<1000):Fig i (toS i):=by
 obtain⟨m,rfl⟩:=Int.eq_ofNat_of_zero_le h0;have e:=PySem.W.KIN.signs_num m;obtain⟨⟨a,b⟩,c,d⟩:=aI m (by omega);rw[←e] at a b c d;have hl:(toS (m:Int)).cps.toList.length=(toS (m:Int)).length:=by simp[Str.length]
 exact⟨by rw[←hl];exact a,by rw[←hl];exact b,c,λz=>by rw[d z];rfl,PySem.W.KIN.num_reads (by omega) (by omega),rfl⟩
theorem Fig.ok(h:Fig i x):PyData.strOk x=true:=by
 unfold PyData.strOk;rw[Array.all_eq_true_iff_forall_mem];intro c hc;have:=h.sg c (by simpa using hc);simp;omega
theorem Fig.free(h:Fig i x)(hc:c<48):HG c x:=λz=>by have:=h.sg c z;omega
theorem MF(h:GoodName x)(hc:c<97):HG c x:=λz=>by have:=h.ab c z;omega
theorem Wb:toS 0=("0" : Str):=by decide +kernel
section
variable{τ:Sl}{μ:Mh}{d x:D}{ds:List D}{ma mb:Sl->M D}{ra:Sl->M (List D)}{tc:Sl->M Bool}{QD:D->Mh->Prop}{QB:Bool->Mh->Prop}{QL:List D->Mh->Prop}{QS:Fl×Sl->Mh->Prop}
noncomputable def aJ(QB:Bool->Mh->Prop):Bool->Mh->Prop
 |true=>QB false
 |false=>QB true
theorem wz_chT(h:P):D.bl true=D.bl true/\P:=⟨rfl,h⟩
theorem wz_not(h:WP (tc τ) μ (aJ QB)):WP (Fa tc τ) μ QB:=Tz (Am h λb _ z=>by cases b;exact z;exact z)
theorem wz_notT(q:QB false μ):aJ QB true μ:=q
theorem wz_notF(q:QB true μ):aJ QB false μ:=q
theorem wz_lenS{x:Str}(h:x.length<=1000000)(q:QD (.int x.length) μ):WP (Bq [.str x]) μ QD:=by
 refine Aw (a:=.int x.length) (μ':=μ) ?_ q;show (if x.length<=sizeLine then some (D.int x.length,μ) else none)=_;rw[if_pos (by rw[sizeLine_eq];omega)]
theorem ER(h:μ[n]?=some (.lst ds))(q:QD (.int ds.length) μ):WP (Bq [.ref n]) μ QD:=by
 refine Aw (a:=.int ds.length) (μ':=μ) ?_ q;show (match μ[n]? with|some (.lst ds)=>some (D.int ds.length,μ)|_=>none)=_;rw[h]
theorem wz_lenL(q:QD (.int ds.length) μ):WP (Bq [.lst ds]) μ QD:=⟨_,μ,rfl,q⟩
theorem wz_isL(q:QD (.bl b) μ):WP (FL b (.lst ds) .non) μ QD:=by cases b<;>exact⟨_,μ,rfl,q⟩
theorem Cy(h:WP (ma τ) μ λz μ1=>z=.str y/\WP (ra τ) μ1 λds μ2=>WP (g (.str y) ds) μ2 QD):WP (Dy g ma ra τ) μ QD:=Aa (Am h λz μ1 ⟨e,k⟩=>by
 subst e;exact Aa ⟨y,μ1,rfl,Aa k⟩)
theorem wz_strI(h0:0<=i)(h1:i<1000)(q:QD (.str (toS i)) μ):WP (IR [.int i]) μ QD:=by
 refine Aw (a:=.str (toS i)) (μ':=μ) ?_ q;have hl:i.natAbs.log2<1920:=by
  have:i.natAbs<2 ^ 1920:=AAM (show i.natAbs<2 ^ 10 by omega) (Nat.pow_le_pow_right (by decide) (by decide));rcases Nat.eq_zero_or_pos i.natAbs with z|z
  ·rw[z];decide
  ·exact(Nat.log2_lt (by omega)).mpr this
 show (if i.natAbs.log2<1920 then some (D.str (Str.ofString (toString i)),μ) else none)=_;rw[if_pos hl]
theorem wz_ix0(q:QD d μ):WP (AU (.lst (d::ds)) (.int 0)) μ QD:=T6 (Nj (j:=0) rfl) q
theorem wz_ix0T(q:QD d μ):WP (AU (.tup (d::ds)) (.int 0)) μ QD:=JD (Nj (j:=0) rfl) q
theorem wz_strS{x:Str}(q:QD (.str x) μ):WP (IR [.str x]) μ QD:=⟨_,μ,rfl,q⟩
theorem Mj{x:Str}(h:Fig i x)(q:QD (.int i) μ):WP (Og [.str x]) μ QD:=by
 refine Aw (a:=.int i) (μ':=μ) ?_ q;show (if x.length<=640 then (PySem.intText? x).map (λn=>(D.int n,μ)) else none)=_;rw[if_pos (by have:=h.hi;omega),h.val];rfl
theorem wz_signs{x t:Str}(ht:τ[k]?=some (some (.str x)))(he:e=.str t)(hx:x.length<=1000)(h:∀c∈x.cps.toList,c∈t.cps.toList)(q:QD (.bl true) μ):WP (AF O7 (AC (Bi 1 [] (OX (AD k)) (AM 0) Bu (mOp (Co false) (AD 0) (mC e)) BE) AJ) τ) μ QD:=by
 subst he;refine Av (Af ?_);refine Fm (Aa (AT ht ⟨_,μ,rfl,?_⟩));have hl:(x.cps.toList.map λc=>D.str ⟨#[c]⟩).length=x.length:=by simp[Str.length]
 refine⟨by rw[hl,sizeLine_eq];omega,?_⟩;refine Ei (λc=>D.str ⟨#[c]⟩) (λ_=>true) (λ_=>D.bl true) (λc hc=>BN ⟨rfl,E6 ⟨rfl,rfl,λ_=>BI (AT rfl (BV ⟨.bl true,μ,?_,rfl,rfl⟩))⟩⟩) ?_
 ·show some (D.bl (!(Builtin.Str.occurrences t ⟨#[c]⟩ 0 t.length 1).isEmpty),μ)=_;rw[StrLaws.found_one,AAO (h c hc)]
 ·refine D8 ?_ (Ab ?_)
  ·rw[AAF];exact AAq (List.length_filter_le _ _) (by rw[show x.cps.toList.length=x.length from by simp[Str.length],sizeLine_eq];omega)
  ·refine UF (f:=λ_=>true) ?_;rw[show (List.filter (λ_=>true) x.cps.toList).all (λ_=>true)=true from by simp];exact q
theorem Fk{xs:List Str}{x:Str}(h:x∈xs)(q:QD (.bl true) μ):WP (Co false (.str x) (sl xs)) μ QD:=⟨_,μ,Vt h,q⟩
theorem Eh{xs:List Str}{x:Str}(h:x∉xs)(q:QD (.bl false) μ):WP (Co false (.str x) (sl xs)) μ QD:=⟨_,μ,Vu h,q⟩
theorem DU{bf:D->Sl->M Sl}{mb:Sl->M (Fl×Sl)}(h:WP (bf x τ) μ λτ1 μ1=>WP (mb τ1) μ1 (Vj (λτ2 μ2=>WP (Ba bf mb ds τ2) μ2 QS) QS)):WP (Ba bf mb (x::ds) τ) μ QS:=by
 show WP (bnd (bf x τ) λτ1=>bnd (mb τ1) λr=>_) μ QS;exact Aa (Am h λτ1 μ1 z=>Aa (Am z λr μ2 k=>by
  obtain⟨fl,τ2⟩:=r;cases fl with
  |next=>exact k
  |cont=>exact k
  |brk=>exact Bd k
  |rt d=>exact Bd k
  |xc z=>exact Bd k))
theorem Gx{bf:D->Sl->M Sl}{mb:Sl->M (Fl×Sl)}(h:QS (.next,τ) μ):WP (Ba bf mb [] τ) μ QS:=⟨_,μ,rfl,h⟩
theorem Wd(h:WP (ra τ) μ λas μ1=>∃ds,as=[.lst ds]/\QL ds.reverse μ1):WP (Vg ra τ) μ QL:=Aa (Am h λas μ1 ⟨ds,e,q⟩=>by
 subst e;exact⟨_,μ1,rfl,q⟩)
theorem ay{i:Int}{x:Str}(h:Fig i x):∀c∈x.cps.toList,c∈("0123456789" : Str).cps.toList:=λc hc=>by
 have:=h.sg c hc;have e:("0123456789" : Str).cps.toList=[48,49,50,51,52,53,54,55,56,57]:=by decide +kernel
 rw[e];simp;omega
end
end K5
local macro_rules | `(tactic| wtm_at "n")=>`(tactic| first|assumption|omega|(focus (simp;done)))
local macro_rules | `(tactic| wtm_at "u")=>`(tactic| first
 |((with_reducible apply K5.wz_signs);(rfl);(rfl);(wtm_at "n");(assumption))|(with_reducible apply K5.wz_ix0)|(with_reducible apply K5.wz_ix0T)|(with_reducible apply K5.wz_chT)|(with_reducible apply K5.wz_not)|(with_reducible apply K5.wz_notT)|(with_reducible apply K5.wz_notF)|(with_reducible apply K5.wz_lenL)|((with_reducible apply K5.wz_lenS);(wtm_at "n"))|(with_reducible apply K5.wz_isS)|(with_reducible apply K5.wz_isL)|(with_reducible apply K5.wz_isR)|(with_reducible apply K5.wz_strS)|((with_reducible apply K5.wz_strI);(assumption);(wtm_at "n"))
 |wtm_at "p")
local macro_rules | `(tactic| wtm_at "a")=>`(tactic| repeat wtm_at "u")
namespace K5
open PySem L2 Mi K1
section
variable{μ:Mh}{QD:D->Mh->Prop}{i:Int}{x:Str}
theorem WW(h:1<=x.length):∃c,x.cps.toList.head?=some c/\atI x.cps.toList 0=some c:=by
 have hl:x.cps.toList.length=x.length:=by simp[Str.length]
 cases e:x.cps.toList with
 |nil=>rw[e] at hl;simp at hl;omega
 |cons c r=>exact⟨c,rfl,Nj (j:=0) rfl⟩
theorem SF(h:Fig i x)(q:QD (.int i) μ):WP (EC [.str x,.int 3]) μ QD:=by
 have h1:=h.lo;have h3:=h.hi;have hs:=ay h;unfold EC;refine Ap rfl ?_;unfold HN;wtm_at "a";obtain⟨c,e1,e2⟩:=WW h1;refine Aw (a:=.str ⟨#[c]⟩) (μ':=μ) (by show (if x.length<=sizeLine then (atI x.cps.toList 0).map (λc=>(D.str ⟨#[c]⟩,μ)) else none)=_;rw[if_pos (by rw[sizeLine_eq];omega),e2];rfl) ?_;have hc:48<=c/\c<58:=h.sg c (List.mem_of_mem_head? (by rw[e1];rfl));have okc:PyData.strOk (⟨#[c]⟩:Str)=true:=by
  unfold PyData.strOk;simp;omega
 wtm_at "a";refine Ms okc (by decide +kernel) ?_;by_cases hz:c=48
 ·have hi0:=h.nz (by rw[e1,hz]);rw[show ((⟨#[c]⟩:Str)==("0" : Str))=true from by rw[hz];decide +kernel];wtm_at "a";have hx:x=("0" : Str):=by rw[h.eq,hi0,Wb]
  refine Mm h.ok (by decide +kernel) (by rw[hx];decide +kernel) ?_;wtm_at "a";refine Mj h ?_;wtm_at "a";exact⟨_,_,rfl,q⟩
 ·rw[show ((⟨#[c]⟩:Str)==("0" : Str))=false from by
   rw[AAd];intro e;have e0:("0" : Str)=⟨#[48]⟩:=by decide +kernel
   rw[e0] at e;have:=congrArg (λs:Str=>s.cps.toList) e;simp at this;exact hz this]
  wtm_at "a";refine Mj h ?_;wtm_at "a";exact⟨_,_,rfl,q⟩
def Ex.words:Ex->List Str
 | .num i=>[toS i]
 | .var x=>[x]
 | .neg e => "not" :: words e
 | .pair w a b=>w::(words a++words b)
def di(x:Str):Prop:=GoodName x/\x∉(["not", "and", "or"]:List Str)
def Ex.Rd:Nat->Ex->Prop
 |0,_=>False
 |_+1,.num i=>0<=i/\i<=9
 |_+1,.var x=>di x
 |k+1,.neg e=>Ex.Rd k e
 |k+1,.pair w a b=>w∈BD/\Ex.Rd k a/\Ex.Rd k b
theorem eV:∀m:Nat,m<10->(Str.ofString (toString (m:Int)))∉BD/\(Str.ofString (toString (m:Int))==("not" : Str))=false/\(Str.ofString (toString (m:Int))).length=1/\(!(Builtin.Str.occurrences "0123456789" (Str.ofString (toString (m:Int))) 0 (Str.length "0123456789") 1).isEmpty)=true:=by decide +kernel
theorem bU{m:Nat}(h:m<10):CY [.str (toS m)] μ=some (.bl false,μ):=by
 have:m=0∨m=1∨m=2∨m=3∨m=4∨m=5∨m=6∨m=7∨m=8∨m=9:=by omega
 rcases this with rfl|rfl|rfl|rfl|rfl|rfl|rfl|rfl|rfl|rfl<;>exact K3.pureT (by kernel_rfl) rfl (by simp[Cl])
theorem PL(h0:0<=i)(h1:i<=9)(q:QD (.tup [.str "num",.int i]) μ):WP (BP [.str (toS i)]) μ QD:=by
 obtain⟨m,rfl⟩:=Int.eq_ofNat_of_zero_le h0;obtain⟨a1,a2,a3,a4⟩:=eV m (by omega);have hf:=Fs (i:=(m:Int)) (by omega) (by omega);unfold BP;refine Ap rfl ?_;unfold DB;wtm_at "a";refine Eh (xs:=BD) a1 ?_;wtm_at "a";refine Ms hf.ok (by decide +kernel) ?_;rw[a2];wtm_at "a";refine Aw (bU (by omega)) ?_;wtm_at "a";refine wz_lenS (by rw[a3];decide) ?_;rw[a3];wtm_at "a";refine Aw (a:=.bl true) (μ':=μ) (by show some (D.bl (!(Builtin.Str.occurrences "0123456789" (toS (m:Int)) 0 (Str.length "0123456789") 1).isEmpty),μ)=_;rw[a4]) ?_;wtm_at "a";refine Mj hf ?_;wtm_at "a";exact⟨_,_,rfl,q⟩
theorem PH(h:di x)(q:QD (.tup [.str "var",.str x]) μ):WP (BP [.str x]) μ QD:=by
 have hn:x∉BD:=λz=>by
  have hb:=h.1.ab;unfold BD at z;simp only[AAI,List.not_mem_nil,or_false] at z;rcases z with rfl|rfl|rfl|rfl|rfl|rfl
  ·exact absurd hb (by unfold B9;decide +kernel)
  ·exact absurd hb (by unfold B9;decide +kernel)
  ·exact absurd hb (by unfold B9;decide +kernel)
  ·exact absurd hb (by unfold B9;decide +kernel)
  ·exact h.2 (by decide +kernel)
  ·exact h.2 (by decide +kernel)
 unfold BP;refine Ap rfl ?_;unfold DB;wtm_at "a";refine Eh (xs:=BD) hn ?_;wtm_at "a";refine CD h.1.ok (by decide +kernel) (by rw[AAd];intro e;exact h.2 (by rw[e];decide +kernel)) ?_;wtm_at "a";refine Aw (JF h.1) ?_;wtm_at "a";exact⟨_,_,rfl,q⟩
theorem PK(h:x∈BD)(q:QD .non μ):WP (BP [.str x]) μ QD:=by
 unfold BP;refine Ap rfl ?_;unfold DB;wtm_at "a";refine Fk (xs:=BD) h ?_;wtm_at "a";exact⟨_,_,rfl,q⟩
theorem PM(q:QD .non μ):WP (BP [.str "not"]) μ QD:=by
 unfold BP;refine Ap rfl ?_;unfold DB;wtm_at "a";refine Eh (xs:=BD) (by decide +kernel) ?_;wtm_at "a";exact⟨_,_,rfl,q⟩
end
section
variable{μ:Mh}{τ:Sl}{QD:D->Mh->Prop}{QS:Fl×Sl->Mh->Prop}{i:Int}{x w:Str}{ds:List D}{y a b:D}
theorem CH(gs:Mh)(o:MO):(gs++[o])[gs.length]?=some o:=by rw[AAR (AAE _)];simp
theorem Ih(h:ν[n]?=some (.lst ds)):Dz (.ref n) ν=some ((),ν):=by
 unfold Dz;rw[AO (show Bs (.ref n) ν=some (ds,ν) from by show (match ν[n]? with|some (.lst ds')=>some (ds',ν)|_=>none)=some (ds,ν);rw[h])];rfl
theorem PF(ht:τ[k]?=some (some (.ref gs.length)))(q:QD y (gs++[.lst ds])):WP (F2 Sc (AD k) τ) (gs++[.lst (ds++[y])]) QD:=by
 unfold F2;refine Aa (AT ht (Aa ⟨(),_,Ih (CH _ _),?_⟩));refine Aw (a:=y) (μ':=gs++[.lst ds]) ?_ q;show FI gs.length (λds=>(ds[ds.length-1]?).map λd=>(d,ds.dropLast)) (gs++[.lst (ds++[y])])=_;unfold FI;rw[CH];simp
theorem T0(h:w∈BD)(q:QD (.tup [.str w,a,b]) (μ++[.lst st])):WP (C4 [.str w,.ref μ.length]) (μ++[.lst (st++[b,a])]) QD:=by
 have hl2:2<=(st++[b,a]).length:=by simp
 unfold C4;refine Ap rfl ?_;unfold Gd;wtm_at "a";refine Fk (xs:=BD) h ?_;wtm_at "a";refine ER (CH _ _) ?_;wtm_at "a";rw[show st++[b,a]=(st++[b])++[a] from by simp];refine PF (gs:=μ) rfl ?_;wtm_at "a";refine PF (gs:=μ) rfl ?_;wtm_at "a";exact⟨_,_,rfl,q⟩
theorem T1(q:QD (.tup [.str "not",a]) (μ++[.lst st])):WP (C4 [.str "not",.ref μ.length]) (μ++[.lst (st++[a])]) QD:=by
 have hl2:1<=(st++[a]).length:=by simp
 unfold C4;refine Ap rfl ?_;unfold Gd;wtm_at "a";refine Eh (xs:=BD) (by decide +kernel) ?_;wtm_at "a";refine ER (CH _ _) ?_;wtm_at "a";refine PF (gs:=μ) rfl ?_;wtm_at "a";exact⟨_,_,rfl,q⟩
noncomputable abbrev exB:Sl->M (Fl×Sl):=(AQ (As (AF BP (AC (AD 2) AJ)) (AM 3))
  (AQ (sIf (AR (mOp (FL false) (AD 3) (mC .non))) (As (AF C4 (AC (AD 2) (AC (AD 1) AJ))) (AM 3)) A1)
  (AQ (sIf (AR (mOp (FL false) (AD 3) (mC .non))) (Ar (mC .non)) A1)
  (Ag (BB FQ (AD 1) (AC (AD 3) AJ))))))
theorem Qy:∀(k:Nat) (e:Ex),Ex.Rd k e->∀(rest:List D) (st:List D) (o2 o3:Option D),st.length+(Ex.words e).length<1000->(∀p2 p3:Option D,WP (Ba (AM 2) exB rest [t,some (.ref μ.length),p2,p3]) (μ++[.lst (st++[e.toD])]) QS)->
  WP (Ba (AM 2) exB (((Ex.words e).map D.str).reverse++rest) [t,some (.ref μ.length),o2,o3]) (μ++[.lst st]) QS
 |0,_,h,_,_,_,_,_,_=>h.elim
 |k+1,.num i,h,rest,st,o2,o3,hl,q=>by
  show WP (Ba (AM 2) exB (.str (toS i)::rest) _) _ _;refine DU (BN ?_);wtm_at "a";refine PL h.1 h.2 ?_;wtm_at "a";have hl:st.length+1<1000:=hl;refine E7 (gs:=μ) rfl (by rw[sizeLine_eq];omega) ?_;wtm_at "a";exact⟨μ,_,rfl,rfl,rfl,q _ _⟩
 |k+1,.var x,h,rest,st,o2,o3,hl,q=>by
  show WP (Ba (AM 2) exB (.str x::rest) _) _ _;refine DU (BN ?_);wtm_at "a";refine PH h ?_;wtm_at "a";have hl:st.length+1<1000:=hl;refine E7 (gs:=μ) rfl (by rw[sizeLine_eq];omega) ?_;wtm_at "a";exact⟨μ,_,rfl,rfl,rfl,q _ _⟩
 |k+1,.neg e,h,rest,st,o2,o3,hl,q=>by
  have hl:st.length+((Ex.words e).length+1)<1000:=hl;have e1:((Ex.words (.neg e)).map D.str).reverse++rest=((Ex.words e).map D.str).reverse++(.str "not" :: rest):=by simp[Ex.words]
  rw[e1];refine Qy k e h _ _ _ _ (by omega) λp2 p3=>?_;refine DU (BN ?_);wtm_at "a";refine PM ?_;wtm_at "a";refine T1 ?_;wtm_at "a";refine E7 (gs:=μ) rfl (by rw[sizeLine_eq];omega) ?_;wtm_at "a";exact⟨μ,_,rfl,rfl,rfl,q _ _⟩
 |k+1,.pair w a b,h,rest,st,o2,o3,hl,q=>by
  have hl:st.length+((Ex.words a++Ex.words b).length+1)<1000:=hl;rw[AAG] at hl;have e1:((Ex.words (.pair w a b)).map D.str).reverse++rest=((Ex.words b).map D.str).reverse++(((Ex.words a).map D.str).reverse++(.str w::rest)):=by simp[Ex.words]
  rw[e1];have wa:1<=(Ex.words a).length:=by cases a<;>simp[Ex.words]
  refine Qy k b h.2.2 _ _ _ _ (by omega) λp2 p3=>?_;refine Qy k a h.2.1 _ _ _ _ (by rw[AAG];simp;omega) λp4 p5=>?_;refine DU (BN ?_);wtm_at "a";refine PK h.1 ?_;wtm_at "a";rw[show st++[b.toD]++[a.toD]=st++[b.toD,a.toD] from by simp];refine T0 h.1 ?_;wtm_at "a";refine E7 (gs:=μ) rfl (by rw[sizeLine_eq];omega) ?_;wtm_at "a";exact⟨μ,_,rfl,rfl,rfl,q _ _⟩
theorem exc:∀e:Ex,Cl k e.toD
 | .num i=>by unfold Ex.toD;simp[Cl,ClL]
 | .var x=>by unfold Ex.toD;simp[Cl,ClL]
 | .neg e=>by
  have:=exc (k:=k) e;unfold Ex.toD;simp[Cl,ClL,this]
 | .pair w a b=>by
  have h1:=exc (k:=k) a;have h2:=exc (k:=k) b;unfold Ex.toD;simp[Cl,ClL,h1,h2]
theorem UB(h:Ex.Rd k e)(hl:(Ex.words e).length<999)(q:QD e.toD μ):WP (Ct [.lst ((Ex.words e).map D.str)]) μ QD:=by
 unfold Ct;refine Fp rfl ?_;unfold FB;wtm_at "a";refine Wd ?_;wtm_at "a";refine⟨_,rfl,?_⟩;rw[←AAY ((Ex.words e).map D.str).reverse];refine Qy k e h [] [] _ _ (by simp;omega) λp2 p3=>Gx ?_;wtm_at "a";refine ER (CH _ _) ?_;wtm_at "a";refine Aw (a:=e.toD) (μ':=μ++[.lst ([]++[e.toD])]) ?_ ?_
 ·show bnd (Bl (.ref μ.length)) (λds=>ixD ds 0) (μ++[MO.lst [e.toD]])=_;rw[AO (show Bl (.ref μ.length) (μ++[MO.lst [e.toD]])=some ([e.toD],μ++[MO.lst [e.toD]]) from by show (match (μ++[MO.lst [e.toD]])[μ.length]? with|some (.lst ds')=>some (ds',μ++[MO.lst [e.toD]])|_=>none)=_;rw[CH])];rfl
 ·exact⟨_,_,_,rfl,rfl,exc e,q⟩
end
section
variable{μ:Mh}{QD:D->Mh->Prop}{i:Int}{x:Str}{ds es:List D}{a:D}
theorem Wc(k:Nat)(h:i=(k:Int))(q:QD (.lst (ds.take k)) μ):WP (Ks none (some i) (.lst ds)) μ QD:=by
 subst h;exact⟨_,μ,rfl,by rw[LL];exact q⟩
theorem JA(k:Nat)(h:i=(k:Int))(hk:k<=ds.length)(q:QD (.lst (ds.drop k)) μ):WP (Ks (some i) none (.lst ds)) μ QD:=by
 subst h;exact⟨_,μ,rfl,by rw[LM k hk];exact q⟩
theorem Nu(k:Nat)(h:i=(k:Int))(q:QD (.tup (ds.take k)) μ):WP (Ks none (some i) (.tup ds)) μ QD:=by
 subst h;exact⟨_,μ,rfl,by rw[LL];exact q⟩
theorem Ce(k:Nat)(h:i=(k:Int))(hk:k<=ds.length)(q:QD (.tup (ds.drop k)) μ):WP (Ks (some i) none (.tup ds)) μ QD:=by
 subst h;exact⟨_,μ,rfl,by rw[LM k hk];exact q⟩
theorem IG(h:ds.length+es.length<=1000000)(q:QD (.lst (ds++es)) μ):WP (BK (.lst ds) (.lst es)) μ QD:=D8 (by rw[sizeLine_eq,AAG];omega) q
theorem Gy(h:ds.length+es.length<=1000000)(q:QD (.tup (d::ds++es)) μ):WP (BK (.tup (d::ds)) (.tup es)) μ QD:=IK (by rw[sizeLine_eq];simp;omega) q
def D7(p:Str)(u r:D):Prop:=isN r=false/\∀(μ:Mh) (QD:D->Mh->Prop),QD r μ->WP (Cc [.str p,u]) μ QD
theorem Z1(h:Ex.Rd k e)(hl:(Ex.words e).length<999):D7 "expression" (.lst ((Ex.words e).map D.str)) e.toD:=⟨by cases e<;>rfl,λμ QD q=>by
 unfold Cc;refine Ap rfl ?_;unfold EJ;wtm_at "a";refine UB h hl ?_;wtm_at "a";exact⟨_,_,rfl,q⟩⟩
theorem Hj{p:Str}(hp:p = "number" ∨ p = "target")(h:Fig i x):D7 p (.str x) (.int i):=⟨rfl,λμ QD q=>by
 have e1:PyData.strOk p=true/\(p==("expression" : Str))=false/\p∈(["number", "target"]:List Str):=by rcases hp with rfl|rfl<;>decide +kernel
 unfold Cc;refine Ap rfl ?_;unfold EJ;wtm_at "a";refine CD e1.1 (by decide +kernel) e1.2.1 ?_;wtm_at "a";refine Fk (xs:=["number", "target"]) e1.2.2 ?_;wtm_at "a";refine SF h ?_;wtm_at "a";exact⟨_,_,rfl,q⟩⟩
theorem VU(h:x∈(["safe", "steady", "whole"]:List Str)):D7 "kind" (.str x) (.str x):=⟨rfl,λμ QD q=>by
 unfold Cc;refine Ap rfl ?_;unfold EJ;wtm_at "a";refine Eh (xs:=["number", "target"]) (by decide +kernel) ?_;wtm_at "a";refine Fk (xs:=["safe", "steady", "whole"]) h ?_;wtm_at "a";exact⟨_,_,rfl,q⟩⟩
theorem Hi{p:Str}(hp:p = "name" ∨ p = "box" ∨ p = "variable")(h:GoodName x):D7 p (.str x) (.str x):=⟨rfl,λμ QD q=>by
 have e1:PyData.strOk p=true/\(p==("expression" : Str))=false/\p∉(["number", "target"]:List Str)/\(p==("kind" : Str))=false:=by rcases hp with rfl|rfl|rfl<;>decide +kernel
 unfold Cc;refine Ap rfl ?_;unfold EJ;wtm_at "a";refine CD e1.1 (by decide +kernel) e1.2.1 ?_;wtm_at "a";refine Eh (xs:=["number", "target"]) e1.2.2.1 ?_;wtm_at "a";refine CD e1.1 (by decide +kernel) e1.2.2.2 ?_;wtm_at "a";refine Aw (JF h) ?_;wtm_at "a";exact⟨_,_,rfl,q⟩⟩
theorem fil(xs:List α):xs.filter (λ_=>true)=xs:=by simp
theorem bQ:∀xs:List (Str×D×D),GM (xs.map λa=>D.str a.1) (xs.map λa=>a.2.1)=xs.map λa=>D.tup [.str a.1,a.2.1]
 |[]=>rfl
 |a::xs=>by rw[AAW,AAW,AAW,←bQ xs];rfl
theorem Y2{α:Type}{f:α->Bool}{xs:List α}(q:QD (.bl (xs.any f)) μ):WP (WX [.lst (xs.map λa=>D.bl (f a))]) μ QD:=by
 refine Aw (a:=.bl (xs.any f)) (μ':=μ) ?_ q;show (Hz (xs.map λa=>D.bl (f a))).map _=_;rw[Ng];show some (D.bl ((xs.map f).any id),μ)=_;rw[List.any_map];rfl
noncomputable abbrev VT:Sl->M (Fl×Sl):=(AQ (sIf (AR (mOp Cj (AF Bq (AC (AD 1) AJ)) (AF Bq (AC (AD 0) AJ)))) (Ar (mC .non)) A1)
  (AQ (As (Bi 2 [] (OW HW (AC (AD 0) (AC (AD 1) AJ))) (DT [0,1]) Bu (AF Cc (AC (AD 0) (AC (AD 1) AJ))) BE) (AM 3))
  (Ar (mIf (AR (AF WX (AC (Bi 1 [] (Dw (AD 3)) (AM 0) Bu (mOp (FL false) (AD 0) (mC .non)) BE) AJ))) (mC .non) (AD 3)))))
theorem MA{xs:List (Str×D×D)}{o2 o3:Option D}(h:∀a∈xs,D7 a.1 a.2.1 a.2.2)(hl:xs.length<=1000)(q:QD (.lst (xs.map λa=>a.2.2)) μ):WP (VT [some (.tup (xs.map λa=>D.str a.1)),some (.lst (xs.map λa=>a.2.1)),o2,o3]) μ λr μ2=>∃d τ2,r=(.rt d,τ2)/\QD d μ2:=by
 unfold VT;wtm_at "a";refine Aa (Af (AT rfl (Af (AT rfl (Ab ?_)))));refine⟨xs.map λa=>D.tup [.str a.1,a.2.1],μ,?_,by rw[AAF,sizeLine_eq];omega,?_⟩
 ·show (if (xs.map λa=>a.2.1).length=(xs.map λa=>D.str a.1).length then some (GM (xs.map λa=>D.str a.1) (xs.map λa=>a.2.1),μ) else none)=_;rw[if_pos (by simp),bQ]
 refine Ei (λa:Str×D×D=>D.tup [.str a.1,a.2.1]) (λ_=>true) (λa=>a.2.2) (λa ha=>KL ⟨rfl,E6 ⟨rfl,rfl,λ_=>?_⟩⟩) ?_
 ·refine Av (Af (AT rfl (Af (AT rfl (Ab ?_)))));exact(h a ha).2 μ _ ⟨rfl,rfl⟩
 ·rw[fil];refine D8 (by rw[AAF,sizeLine_eq];omega) (Ax ?_);refine FH (Mn (A5 (Av (Af (Fm ?_)))));refine KK (AT rfl (Mp ⟨by rw[AAF,sizeLine_eq];omega,?_⟩));refine Ei (λa:Str×D×D=>a.2.2) (λ_=>true) (λ_=>D.bl false) (λa ha=>BN ⟨rfl,E6 ⟨rfl,rfl,λ_=>?_⟩⟩) ?_
  ·refine BI (AT rfl (BV (T7 ⟨?_,rfl⟩)));rw[(h a ha).1]
  ·rw[fil];refine D8 (by rw[AAF,sizeLine_eq];omega) (Ab (Y2 (f:=λ_=>false) ?_));rw[show (xs.any λ_=>false)=false from by simp];exact⟨false,rfl,Nx (AT rfl ⟨_,_,rfl,q⟩)⟩
theorem Ec{xs:List (Str×D×D)}(ns:List Str)(hns:xs.map (·.1)=ns)(hn:("expression" : Str)∉ns)(h:∀a∈xs,D7 a.1 a.2.1 a.2.2)(hl:xs.length<=1000)(q:QD (.lst (xs.map λa=>a.2.2)) μ):WP (Ch [.tup (xs.map λa=>D.str a.1),.lst (xs.map λa=>a.2.1)]) μ QD:=by
 unfold Ch;refine Ap rfl ?_;unfold F1;refine A0 (CP (A5 (BI (BV (AT rfl ?_)))));rw[show (xs.map λa=>D.str a.1)=(xs.map (·.1)).map D.str from by simp];refine Eh (hns ▸ hn) ?_;rw[show (xs.map (·.1)).map D.str=(xs.map λa=>D.str a.1) from by simp];refine Be (DG (JC (Ax ?_)));exact MA h hl q
theorem Gz{xs:List (Str×D×D)}{k:Nat}{us:List Str}(hu:us.map D.str=xs.map λa=>a.2.1)(h:∀a∈xs,D7 a.1 a.2.1 a.2.2)(he:Ex.Rd k e)(hle:(Ex.words e).length<999)(hl:xs.length<=900)(q:QD (.lst ((xs.map λa=>a.2.2)++[e.toD])) μ):WP (Ch [.tup ((xs.map λa=>D.str a.1)++[.str "expression"]),.lst (us.map D.str++(Ex.words e).map D.str)]) μ QD:=by
 have hlu:us.length=xs.length:=by have:=congrArg List.length hu;simpa using this
 unfold Ch;refine Ap rfl ?_;unfold F1;refine A0 (CP (A5 (BI (BV (AT rfl ?_)))));rw[show (xs.map λa=>D.str a.1)++[D.str "expression"]=(xs.map (λa=>a.1)++[("expression" : Str)]).map D.str from by simp];refine Fk (by simp) ?_;rw[show (xs.map (λa=>a.1)++[("expression" : Str)]).map D.str=(xs.map λa=>D.str a.1)++[D.str "expression"] from by simp];refine Be (G1 (A0 ?_));wtm_at "a";have e1:(((xs.map λa=>D.str a.1)++[D.str "expression"]).length:Int)-1=(xs.length:Int):=by simp
 refine Wc xs.length e1 ?_;wtm_at "a";refine JA xs.length e1 (by simp;omega) ?_;wtm_at "a";rw[List.take_left' (by simp[hlu]),List.drop_left' (by simp[hlu])];refine IG (by simp;omega) ?_;have hw:=Z1 he hle;have key:=MA (μ:=μ) (QD:=QD) (xs:=xs++[(("expression" : Str),D.lst ((Ex.words e).map D.str),e.toD)]) (o2:=some (.int ((((xs.map λa=>D.str a.1)++[D.str "expression"]).length:Int)-1))) (o3:=none) (λa ha=>by
  rcases AAJ.mp ha with z|z
  ·exact h a z
  ·rw[AAK] at z;subst z;exact hw) (by simp;omega) (by simpa using q)
 rw[AAX,AAX,←hu] at key;exact Ax key
end
noncomputable abbrev ln(ws:List Str):Str:=Str.join (" " : Str) ws
noncomputable abbrev tx(ls:List Str):Str:=Str.join ("\n" : Str) ls
structure Gw(w:Str):Prop where
 sp:HG 32 w
 nl:HG 10 w
 le:w.length<=8
 as:∀c∈w.cps.toList,c<128
theorem Db(h:GoodName x):Gw x:=⟨MF h (by decide),MF h (by decide),h.hi,λc hc=>by have:=h.ab c hc;omega⟩
theorem DZ(h0:0<=i)(h1:i<1000):Gw (toS i):=by
 have h:=Fs h0 h1;exact⟨h.free (by decide),h.free (by decide),by have:=h.hi;omega,λc hc=>by have:=h.sg c hc;omega⟩
theorem Dd(h:(!(w.cps.toList.contains 32)&&!(w.cps.toList.contains 10)&&decide (w.length<=8)&&w.cps.toList.all (λc=>decide (c<128)))=true):Gw w:=by
 simp only[Bool.and_eq_true,Bool.not_eq_true',decide_eq_true_eq] at h;exact⟨λz=>by have:=h.1.1.1;simp at this;exact this (by simpa using z),λz=>by have:=h.1.1.2;simp at this;exact this (by simpa using z),h.1.2,λc hc=>by have:=List.all_eq_true.mp h.2 c hc;simpa using this⟩
section
variable{μ:Mh}{QD:D->Mh->Prop}{w:Str}{us ws:List Str}{ps rs:List D}{a b:D}
theorem Lo(hn:ws≠[])(h:∀w∈ws,Gw w)(hl:ws.length<=1000)(q:QD (.lst (ws.map D.str)) μ):WP (Hc (.str (ln ws)) [.str " "]) μ QD:=by
 unfold ln;rw[OD];exact Nz (B:=8) hn (λw hw=>(h w hw).sp) (λw hw=>(h w hw).le) (by rw[sizeLine_eq];omega) q
theorem FS(hd:Bl d μ=some (ws.map D.str,μ))(h:∀w∈ws,Gw w)(hl:ws.length<=1000)(q:QD (.str (ln ws)) μ):WP (DY (.str " ") [d]) μ QD:=by
 unfold ln at q;rw[OD] at q ⊢;exact Qb (B:=8) hd (λw hw=>(h w hw).le) (by rw[sizeLine_eq];omega) q
theorem KJ(h1:PyData.strOk w=true)(h:(w==("unless" : Str))=false)(q:QD d μ):WP (B3 [.str w,d]) μ QD:=by
 unfold B3;refine Ap rfl ?_;unfold En;refine FH (Mn (A5 (BI (AT rfl (BV ?_)))));refine CD h1 (by decide +kernel) h ?_;wtm_at "a";exact⟨_,_,rfl,q⟩
theorem KI(q:QD (.tup [b,a]) μ):WP (B3 [.str "unless",.tup [a,b]]) μ QD:=by
 unfold B3;refine Ap rfl ?_;unfold En;wtm_at "a";refine Aw (a:=.int (-1)) (μ':=μ) rfl ?_;exact⟨_,_,rfl,_,_,rfl,q⟩
theorem ES(hw:PyData.strOk w=true)(hu:(w==("unless" : Str))=false)(hk:(EU w).getD ((Bc w).getD .non)=.tup ps)(hg:∀u∈w::us,Gw u)(hl:us.length<=100)
  (hp:∀(μ:Mh) (QD:D->Mh->Prop),QD (.lst rs) μ->WP (Ch [.tup ps,.lst (us.map D.str)]) μ QD) (hr:rs.length<=100) (q:QD (.tup (.str w::rs)) μ):WP (BZ [.str (ln (w::us))]) μ QD:=by
 unfold BZ;refine Ap rfl ?_;unfold Hn;refine A0 (C6 (Cy (y:=ln (w::us)) (AT rfl ⟨rfl,Af (BV (Ab ?_))⟩)));refine Lo (by simp) hg (by simp;omega) ?_;rw[AAW];wtm_at "a";refine Aw (a:=(Bc w).getD .non) (μ':=μ) rfl ?_;wtm_at "a";refine Aw (a:=.tup ps) (μ':=μ) (by show some ((EU w).getD ((Bc w).getD .non),μ)=_;rw[hk]) ?_;wtm_at "a";refine KJ hw hu ?_;wtm_at "a";refine JA 1 rfl (by simp) ?_;wtm_at "a";refine hp _ _ ?_;wtm_at "a";refine KJ hw hu ?_;refine Gy (ds:=[]) (by simp;omega) ?_;exact⟨_,_,rfl,q⟩
theorem Wp(h0:0<=t)(h1:t<1000)(he:Ex.Rd k e)(hg:∀u∈Ex.words e,Gw u)(hle:(Ex.words e).length<99)(q:QD (.tup [.str "unless",e.toD,.int t]) μ):WP (BZ [.str (ln ("unless" :: toS t::Ex.words e))]) μ QD:=by
 unfold BZ;refine Ap rfl ?_;unfold Hn;refine A0 (C6 (Cy (y:=ln ("unless" :: toS t::Ex.words e)) (AT rfl ⟨rfl,Af (BV (Ab ?_))⟩)));refine Lo (by simp) (λu hu=>?_) (by simp;omega) ?_
 ·rcases AAI.mp hu with rfl|hu
  ·exact Dd (by decide +kernel)
  ·rcases AAI.mp hu with rfl|hu
   ·exact DZ h0 h1
   ·exact hg u hu
 rw[AAW,AAW];wtm_at "a";refine Aw (a:=.tup [.str "expression",.str "target"]) (μ':=μ) (by kernel_rfl) ?_;wtm_at "a";refine Aw (a:=.tup [.str "expression",.str "target"]) (μ':=μ) (by kernel_rfl) ?_;wtm_at "a";refine KI ?_;wtm_at "a";refine JA 1 rfl (by simp) ?_;wtm_at "a";refine Gz (xs:=[("target",.str (toS t),.int t)]) (us:=[toS t]) rfl (λa ha=>by rw[AAK] at ha;subst ha;exact Hj (.inr rfl) (Fs h0 h1)) he (by omega) (by simp) ?_;wtm_at "a";refine KI ?_;exact⟨_,_,rfl,_,_,rfl,q⟩
end
theorem FM:∀(k:Nat) (e:Ex),Ex.Rd k e->(Ex.words e).length+1<=2 ^ k
 |0,_,h=>h.elim
 |k+1,.num _,_=>by show 1+1<=2 ^ (k+1);have:=Nat.one_le_two_pow (n:=k);rw[Nat.pow_succ];omega
 |k+1,.var _,_=>by show 1+1<=2 ^ (k+1);have:=Nat.one_le_two_pow (n:=k);rw[Nat.pow_succ];omega
 |k+1,.neg e,h=>by
  have:=FM k e h;show (Ex.words e).length+1+1<=2 ^ (k+1);have:=Nat.one_le_two_pow (n:=k);rw[Nat.pow_succ];omega
 |k+1,.pair w a b,h=>by
  have h1:=FM k a h.2.1;have h2:=FM k b h.2.2;show (Ex.words a++Ex.words b).length+1+1<=2 ^ (k+1);rw[AAG,Nat.pow_succ];omega
theorem Cv(h:Ex.Rd 5 e):(Ex.words e).length<=31:=by have:=FM 5 e h;omega
theorem YA(h:w∈BD):Gw w:=by
 unfold BD at h;simp only[AAI,List.not_mem_nil,or_false] at h;rcases h with rfl|rfl|rfl|rfl|rfl|rfl<;>exact Dd (by decide +kernel)
theorem Fd:∀(k:Nat) (e:Ex),Ex.Rd k e->∀u∈Ex.words e,Gw u
 |0,_,h,_,_=>h.elim
 |k+1,.num i,h,u,hu=>by rw[AAK.mp hu];exact DZ h.1 (by have:=h.2;omega)
 |k+1,.var x,h,u,hu=>by rw[AAK.mp hu];exact Db h.1
 |k+1,.neg e,h,u,hu=>by
  rcases AAI.mp hu with rfl|hu
  ·exact Dd (by decide +kernel)
  ·exact Fd k e h u hu
 |k+1,.pair w a b,h,u,hu=>by
  rcases AAI.mp hu with rfl|hu
  ·exact YA h.1
  ·rcases AAJ.mp hu with hu|hu
   ·exact Fd k a h.2.1 u hu
   ·exact Fd k b h.2.2 u hu
def Rw.ws:Rw->List Str
 | .put bx e => "put" :: bx::Ex.words e
 | .get x bx=>["get",x,bx]
 | .letr x e => "let" :: x::Ex.words e
 | .unless e t => "unless" :: toS t::Ex.words e
 | .jump t=>["jump",toS t]
 | .tell e => "tell" :: Ex.words e
 | .done=>["done"]
def Rw.Rd:Rw->Prop
 | .put bx e=>GoodName bx/\Ex.Rd 5 e
 | .get x bx=>GoodName x/\GoodName bx
 | .letr x e=>GoodName x/\Ex.Rd 5 e
 | .unless e t=>Ex.Rd 5 e/\0<=t/\t<1000
 | .jump t=>0<=t/\t<1000
 | .tell e=>Ex.Rd 5 e
 | .done=>True
theorem EL{P:Str->Prop}(h:P a)(hl:∀u∈l,P u):∀u∈a::l,P u:=λu hu=>by
 rcases AAI.mp hu with rfl|hu
 ·exact h
 ·exact hl u hu
theorem Hf{r:Rw}(h:Rw.Rd r):∀u∈Rw.ws r,Gw u:=by
 cases r with
 |put bx e=>exact EL (Dd (by decide +kernel)) (EL (Db h.1) (Fd 5 e h.2))
 |get x bx=>exact EL (Dd (by decide +kernel)) (EL (Db h.1) (EL (Db h.2) λ_ z=>nomatch z))
 |letr x e=>exact EL (Dd (by decide +kernel)) (EL (Db h.1) (Fd 5 e h.2))
 | «unless» e t=>exact EL (Dd (by decide +kernel)) (EL (DZ h.2.1 h.2.2) (Fd 5 e h.1))
 |jump t=>exact EL (Dd (by decide +kernel)) (EL (DZ h.1 h.2) λ_ z=>nomatch z)
 |tell e=>exact EL (Dd (by decide +kernel)) (Fd 5 e h)
 |done=>exact EL (Dd (by decide +kernel)) λ_ z=>nomatch z
theorem M6(h:Rw.Rd r):(Rw.ws r).length<=33:=by
 cases r with
 |put bx e=>have:=Cv h.2;show (Ex.words e).length+1+1<=33;omega
 |get x bx=>show 3<=33;decide
 |letr x e=>have:=Cv h.2;show (Ex.words e).length+1+1<=33;omega
 | «unless» e t=>have:=Cv h.1;show (Ex.words e).length+1+1<=33;omega
 |jump t=>show 2<=33;decide
 |tell e=>have:=Cv h;show (Ex.words e).length+1<=33;omega
 |done=>show 1<=33;decide
section
variable{μ:Mh}{QD:D->Mh->Prop}{x:Str}
theorem Pq(h:D7 p u r):∀a∈[(p,u,r)],D7 a.1 a.2.1 a.2.2:=λa ha=>by rw[AAK] at ha;subst ha;exact h
theorem Jt(h:D7 p u r)(hl:∀a∈l,D7 a.1 a.2.1 a.2.2):∀a∈(p,u,r)::l,D7 a.1 a.2.1 a.2.2:=λa ha=>by
 rcases AAI.mp ha with rfl|ha
 ·exact h
 ·exact hl a ha
theorem ck:∀a∈([]:List (Str×D×D)),D7 a.1 a.2.1 a.2.2:=λ_ z=>nomatch z
theorem Wq(h:Rw.Rd r)(q:QD r.toD μ):WP (BZ [.str (ln (Rw.ws r))]) μ QD:=by
 have hg:=Hf h;have hl:=M6 h;cases r with
 |put bx e=>
  have l5:=Cv h.2;exact ES (rs:=[.str bx,e.toD]) (by decide +kernel) (by decide +kernel) (ps:=[.str "box",.str "expression"]) (by kernel_rfl) hg (by simp;omega) (λμ QD q=>Gz (xs:=[("box",.str bx,.str bx)]) (us:=[bx]) rfl (Pq (Hi (.inr (.inl rfl)) h.1)) h.2 (by omega) (by simp) q) (by simp) q
 |get x bx=>exact ES (rs:=[.str x,.str bx]) (by decide +kernel) (by decide +kernel) (ps:=[.str "variable",.str "box"]) (by kernel_rfl) hg (by simp) (λμ QD q=>Ec (xs:=[("variable",.str x,.str x),("box",.str bx,.str bx)]) ["variable", "box"] rfl (by decide +kernel) (Jt (Hi (.inr (.inr rfl)) h.1) (Pq (Hi (.inr (.inl rfl)) h.2))) (by simp) q) (by simp) q
 |letr x e=>
  have l5:=Cv h.2;exact ES (rs:=[.str x,e.toD]) (by decide +kernel) (by decide +kernel) (ps:=[.str "variable",.str "expression"]) (by kernel_rfl) hg (by simp;omega) (λμ QD q=>Gz (xs:=[("variable",.str x,.str x)]) (us:=[x]) rfl (Pq (Hi (.inr (.inr rfl)) h.1)) h.2 (by omega) (by simp) q) (by simp) q
 | «unless» e t=>exact Wp h.2.1 h.2.2 h.1 (Fd 5 e h.1) (by have:=Cv h.1;omega) q
 |jump t=>exact ES (rs:=[.int t]) (by decide +kernel) (by decide +kernel) (ps:=[.str "target"]) (by kernel_rfl) hg (by simp) (λμ QD q=>Ec (xs:=[("target",.str (toS t),.int t)]) ["target"] rfl (by decide +kernel) (Pq (Hj (.inr rfl) (Fs h.1 h.2))) (by simp) q) (by simp) q
 |tell e=>
  have l5:=Cv h;exact ES (rs:=[e.toD]) (by decide +kernel) (by decide +kernel) (ps:=[.str "expression"]) (by kernel_rfl) hg (by omega) (λμ QD q=>Gz (xs:=[]) (us:=[]) rfl ck h (by omega) (by simp) q) (by simp) q
 |done=>exact ES (rs:=[]) (by decide +kernel) (by decide +kernel) (ps:=[]) (by kernel_rfl) hg (by simp) (λμ QD q=>Ec (xs:=[]) [] rfl (by decide +kernel) ck (by simp) q) (by simp) q
def Mk.ws(m:Mk):List Str:=["makes",m.kd,toS m.sz,toS m.bg]
def Bx.ws(b:Bx):List Str:=["box",b.nm,b.kd,toS b.sz,toS b.bg,b.wr]
def Hd.ws(h:Hd):List Str:=["hand",h.nm,toS h.wi]
theorem NT(h:k∈(["safe", "steady", "whole"]:List Str)):Gw k:=by
 simp only[AAI,List.not_mem_nil,or_false] at h;rcases h with rfl|rfl|rfl<;>exact Dd (by decide +kernel)
theorem RF{m:Mk}(h:Fj m.kd m.sz m.bg):∀u∈Mk.ws m,Gw u:=EL (Dd (by decide +kernel)) (EL (NT h.1) (EL (DZ (by have:=h.2.1;omega) (by have:=h.2.2.1;omega)) (EL (DZ h.2.2.2.1 (by have:=h.2.2.1;have:=h.2.2.2.2;omega)) λ_ z=>nomatch z)))
theorem Ox{b:Bx}(h1:GoodName b.nm)(h:Fj b.kd b.sz b.bg)(h2:GoodName b.wr):∀u∈Bx.ws b,Gw u:=EL (Dd (by decide +kernel)) (EL (Db h1) (EL (NT h.1) (EL (DZ (by have:=h.2.1;omega) (by have:=h.2.2.1;omega)) (EL (DZ h.2.2.2.1 (by have:=h.2.2.1;have:=h.2.2.2.2;omega)) (EL (Db h2) λ_ z=>nomatch z)))))
theorem Rj{h:Hd}(h1:GoodName h.nm)(h2:0<=h.wi)(h3:h.wi<=400):∀u∈Hd.ws h,Gw u:=EL (Dd (by decide +kernel)) (EL (Db h1) (EL (DZ h2 (by omega)) λ_ z=>nomatch z))
theorem IM(h:Fj k s b):Fig s (toS s)/\Fig b (toS b):=⟨Fs (by have:=h.2.1;omega) (by have:=h.2.2.1;omega),Fs h.2.2.2.1 (by have:=h.2.2.1;have:=h.2.2.2.2;omega)⟩
theorem T8(h:Fj m.kd m.sz m.bg)(q:QD (.tup [.str "makes",.str m.kd,.int m.sz,.int m.bg]) μ):WP (BZ [.str (ln (Mk.ws m))]) μ QD:=
 ES (rs:=[.str m.kd,.int m.sz,.int m.bg]) (by decide +kernel) (by decide +kernel) (ps:=[.str "kind",.str "number",.str "number"]) (by kernel_rfl) (RF h) (by simp) (λμ QD q=>Ec (xs:=[("kind",.str m.kd,.str m.kd),("number",.str (toS m.sz),.int m.sz),("number",.str (toS m.bg),.int m.bg)]) ["kind", "number", "number"] rfl (by decide +kernel) (Jt (VU h.1) (Jt (Hj (.inl rfl) (IM h).1) (Pq (Hj (.inl rfl) (IM h).2)))) (by simp) q) (by simp) q
theorem UA(h1:GoodName b.nm)(h:Fj b.kd b.sz b.bg)(h2:GoodName b.wr)(q:QD (.tup (.str "box" :: [.str b.nm,.str b.kd,.int b.sz,.int b.bg,.str b.wr])) μ):WP (BZ [.str (ln (Bx.ws b))]) μ QD:=
 ES (rs:=[.str b.nm,.str b.kd,.int b.sz,.int b.bg,.str b.wr]) (by decide +kernel) (by decide +kernel) (ps:=[.str "name",.str "kind",.str "number",.str "number",.str "name"]) (by kernel_rfl) (Ox h1 h h2) (by simp) (λμ QD q=>Ec (xs:=[("name",.str b.nm,.str b.nm),("kind",.str b.kd,.str b.kd),("number",.str (toS b.sz),.int b.sz),("number",.str (toS b.bg),.int b.bg),("name",.str b.wr,.str b.wr)]) ["name", "kind", "number", "number", "name"] rfl (by decide +kernel) (Jt (Hi (.inl rfl) h1) (Jt (VU h.1) (Jt (Hj (.inl rfl) (IM h).1) (Jt (Hj (.inl rfl) (IM h).2) (Pq (Hi (.inl rfl) h2)))))) (by simp) q) (by simp) q
theorem T9(h1:GoodName h.nm)(h2:0<=h.wi)(h3:h.wi<=400)(q:QD (.tup [.str "hand",.str h.nm,.int h.wi]) μ):WP (BZ [.str (ln (Hd.ws h))]) μ QD:=
 ES (rs:=[.str h.nm,.int h.wi]) (by decide +kernel) (by decide +kernel) (ps:=[.str "name",.str "number"]) (by kernel_rfl) (Rj h1 h2 h3) (by simp) (λμ QD q=>Ec (xs:=[("name",.str h.nm,.str h.nm),("number",.str (toS h.wi),.int h.wi)]) ["name", "number"] rfl (by decide +kernel) (Jt (Hi (.inl rfl) h1) (Pq (Hj (.inl rfl) (Fs h2 (by omega))))) (by simp) q) (by simp) q
end
section
variable{μ:Mh}{τ:Sl}{QD:D->Mh->Prop}{x w:Str}{ds:List D}
theorem FT(hl:ds.length=ps)(h:WP (mb (BQ N ds)) μ λr μ2=>∃es τ2 gs,μ2=μ++gs/\ClL μ.length es/\QD (.lst es) μ/\(r=(.rt (.lst es),τ2)∨∃j,r=(.rt (.ref j),τ2)/\μ.length<=j/\μ2[j]?=some (.lst es))):WP (BF .frz N ps mb ds) μ QD:=by
 obtain⟨r,μ2,e,es,τ2,gs,rfl,c,q,z|⟨j,z,hj,hg⟩⟩:=h
 ·subst z;exact Aw (Hy e hl c) q
 ·subst z;exact Aw (HA e hl hj hg c) q
theorem Jz(ht:τ[i]?=some (some (.ref gs.length)))(h:WP (ra τ) (gs++[.lst ds]) λes μ1=>∃zs,es=[.lst zs]/\μ1=gs++[.lst ds]/\ds.length+zs.length<=1000000/\QD .non (gs++[.lst (ds++zs)])):WP (BB Lg (AD i) ra τ) (gs++[.lst ds]) QD:=by
 unfold BB;refine Aa (AT ht (Aa ⟨(),_,Ih (CH _ _),Aa (Am h ?_)⟩));rintro es μ1 ⟨zs,rfl,rfl,hl,q⟩;refine Aw (a:=.non) (μ':=gs++[.lst (ds++zs)]) ?_ q;show FI gs.length (λds=>if ds.length+zs.length<=sizeLine then some (.non,ds++zs) else none) (gs++[.lst ds])=_;unfold FI;rw[CH];dsimp only;rw[if_pos (by rw[sizeLine_eq];omega)];simp
theorem clS:∀xs:List Str,ClL k (xs.map D.str)
 |[]=>by simp[ClL]
 |x::xs=>by rw[AAW];simp[ClL,Cl,clS xs]
def Do(n:Nat)(d:D)(ws:List Str):Prop:=∀(μ:Mh) (QD:D->Mh->Prop),QD (.lst (ws.map D.str)) μ->WP (B2 n [d]) μ QD
theorem ET:Do (n+1) (.str x) [x]:=λμ QD q=>by
 unfold B2;refine FT rfl ?_;unfold DN;refine A0 (CP (wz_not (A5 (Av ?_))));wtm_at "a";refine Aw (a:=.bl false) (μ':=μ) rfl ?_;wtm_at "a";exact⟨[.str x],_,[],by simp,by simp[ClL,Cl],q,.inl rfl⟩
theorem Ft(h0:0<=i)(h1:i<1000):Do (n+1) (.int i) [toS i]:=λμ QD q=>by
 unfold B2;refine FT rfl ?_;unfold DN;refine A0 (CP (wz_not (A5 (Av ?_))));wtm_at "a";refine Aw (a:=.bl false) (μ':=μ) rfl ?_;wtm_at "a";exact⟨[.str (toS i)],_,[],by simp,by simp[ClL,Cl],q,.inl rfl⟩
theorem RB(h:w∈BD):w∉(["num", "var"]:List Str):=by
 unfold BD at h;simp only[AAI,List.not_mem_nil,or_false] at h;rcases h with rfl|rfl|rfl|rfl|rfl|rfl<;>decide +kernel
theorem Fu:∀(k n:Nat) (e:Ex),k<=n->k<=6->Ex.Rd k e->Do n e.toD (Ex.words e)
 |0,_,_,_,_,h=>h.elim
 |k+1,0,_,hk,_,_=>absurd hk (by omega)
 |k+1,n+1,.num i,_,_,h=>λμ QD q=>by
  have h0:=h.1;have h1:i<1000:=by have:=h.2;omega
  unfold B2;refine FT rfl ?_;unfold DN Ex.toD;refine A0 (CP (wz_not (A5 (Av ?_))));wtm_at "a";refine Aw (a:=.bl true) (μ':=μ) rfl ?_;wtm_at "a";refine Fk (xs:=["num", "var"]) (by decide +kernel) ?_;wtm_at "a";exact⟨[.str (toS i)],_,[],by simp,by simp[ClL,Cl],q,.inl rfl⟩
 |k+1,n+1,.var x,_,_,h=>λμ QD q=>by
  unfold B2;refine FT rfl ?_;unfold DN Ex.toD;refine A0 (CP (wz_not (A5 (Av ?_))));wtm_at "a";refine Aw (a:=.bl true) (μ':=μ) rfl ?_;wtm_at "a";refine Fk (xs:=["num", "var"]) (by decide +kernel) ?_;wtm_at "a";exact⟨[.str x],_,[],by simp,by simp[ClL,Cl],q,.inl rfl⟩
 |k+1,n+1,.neg e,hk,h6,h=>λμ QD q=>by
  have ih:=Fu k n e (by omega) (by omega) h;have hl:=FM k e h;have h64:2 ^ k<=2 ^ 6:=Nat.pow_le_pow_right (by decide) (by omega);unfold B2;refine FT rfl ?_;unfold DN Ex.toD;refine A0 (CP (wz_not (A5 (Av ?_))));wtm_at "a";refine Aw (a:=.bl true) (μ':=μ) rfl ?_;wtm_at "a";refine Eh (xs:=["num", "var"]) (by decide +kernel) ?_;wtm_at "a";refine Ce 1 rfl (by simp) ?_;wtm_at "a";refine DU (BN (Cf (Jz (gs:=μ) rfl ?_)));wtm_at "a";refine ih _ _ ?_;refine Ab ⟨_,rfl,rfl,by simp;omega,By (Gx ?_)⟩;wtm_at "a";exact⟨(Ex.words (.neg e)).map D.str,_,[.lst ((Ex.words (.neg e)).map D.str)],rfl,clS _,q,.inr ⟨_,rfl,AAE _,CH _ _⟩⟩
 |k+1,n+1,.pair w a b,hk,h6,h=>λμ QD q=>by
  have iha:=Fu k n a (by omega) (by omega) h.2.1;have ihb:=Fu k n b (by omega) (by omega) h.2.2;have hla:=FM k a h.2.1;have hlb:=FM k b h.2.2;have h64:2 ^ k<=2 ^ 6:=Nat.pow_le_pow_right (by decide) (by omega);unfold B2;refine FT rfl ?_;unfold DN Ex.toD;refine A0 (CP (wz_not (A5 (Av ?_))));wtm_at "a";refine Aw (a:=.bl true) (μ':=μ) rfl ?_;wtm_at "a";refine Eh (xs:=["num", "var"]) (RB h.1) ?_;wtm_at "a";refine Ce 1 rfl (by simp) ?_;wtm_at "a";refine DU (BN (Cf (Jz (gs:=μ) rfl ?_)));wtm_at "a";refine iha _ _ ?_;refine Ab ⟨_,rfl,rfl,by simp;omega,By ?_⟩;refine DU (BN (Cf (Jz (gs:=μ) rfl ?_)));wtm_at "a";refine ihb _ _ ?_;refine Ab ⟨_,rfl,rfl,by simp;omega,By (Gx ?_)⟩;wtm_at "a";exact⟨(Ex.words (.pair w a b)).map D.str,_,[.lst ((Ex.words (.pair w a b)).map D.str)],by simp[Ex.words],clS _,q,.inr ⟨_,rfl,AAE _,by rw[CH];simp[Ex.words]⟩⟩
end
section
variable{μ:Mh}{τ:Sl}{QD:D->Mh->Prop}{QS:Fl×Sl->Mh->Prop}{x w:Str}
noncomputable def fl:List (D×List Str)->List Str
 |[]=>[]
 |a::l=>a.2++fl l
theorem P8:∀a b:List (D×List Str),fl (a++b)=fl a++fl b
 |[],b=>rfl
 |x::a,b=>by show x.2++fl (a++b)=_;rw[P8 a b];simp[fl]
noncomputable abbrev shB:Sl->M (Fl×Sl):=Ag (BB Lg (AD 1) (AC (AF (B2 6) (AC (AD 2) AJ)) AJ))
theorem Ke(h:∀a∈xs,Do 6 a.1 a.2)(hl:ws0.length+(fl xs).length<=1000)(q:∀o',QS (.next,[some t,some (.ref μ.length),o']) (μ++[.lst ((ws0++fl xs).map D.str)])):
  WP (Ba (AM 2) shB (xs.map (·.1)) [some t,some (.ref μ.length),o]) (μ++[.lst (ws0.map D.str)]) QS:=by
 refine Fo (I:=λrest τ ν=>∃(done todo:List (D×List Str)) (o':Option D),done++todo=xs/\rest=todo.map (·.1)/\τ=[some t,some (.ref μ.length),o']/\ν=μ++[.lst ((ws0++fl done).map D.str)]) ?_ ?_ ⟨[],xs,o,rfl,rfl,rfl,by simp[fl]⟩
 ·rintro y ys τ ν ⟨done,todo,o',e,er,rfl,rfl⟩;cases todo with
  |nil=>cases er
  |cons a todo=>
   obtain⟨rfl,rfl⟩:=List.cons.inj er;have ha:a∈xs:=by rw[←e];simp
   refine BN (Cf (Jz (gs:=μ) rfl ?_));wtm_at "a";refine h a ha _ _ ?_;refine Ab ⟨_,rfl,rfl,?_,By ⟨done++[a],todo,_,by rw[←e];simp,rfl,rfl,by rw[P8];simp[fl]⟩⟩;have e2:fl xs=fl done++(a.2++fl todo):=by rw[←e,P8];rfl
   rw[e2,AAG,AAG] at hl;rw[AAF,AAG,AAF];omega
 ·rintro τ ν ⟨done,todo,o',e,er,rfl,rfl⟩;cases todo with
  |cons a todo=>cases er
  |nil=>
   rw[AAY] at e;subst e;exact q o'
theorem C5(hw:PyData.strOk w=true)(hu:(w==("unless" : Str))=false)(h:∀a∈xs,Do 6 a.1 a.2)(hg:∀u∈w::fl xs,Gw u)(hl:(fl xs).length<=100)(q:QD (.str (ln (w::fl xs))) μ):WP (Bk [.tup (.str w::xs.map (·.1))]) μ QD:=by
 unfold Bk;refine Fp rfl ?_;unfold Gb;wtm_at "a";refine Ce 1 rfl (by simp) ?_;wtm_at "a";refine KJ hw hu ?_;wtm_at "a";refine Ke (ws0:=[w]) h (by rw[List.length_singleton];omega) λo'=>?_;refine Ax (FH (Cy (y := " ") (BV ⟨rfl,?_⟩)));wtm_at "a";refine FS (ws:=w::fl xs) ?_ hg (by rw[AAH];omega) ?_
 ·show (match (μ++[MO.lst (([w]++fl xs).map D.str)])[μ.length]? with|some (.lst ds')=>some (ds',μ++[MO.lst (([w]++fl xs).map D.str)])|_=>none)=_;rw[CH];rfl
 ·exact⟨_,_,_,rfl,rfl,by simp[Cl],q⟩
theorem R9(he:Ex.Rd 5 e)(h0:0<=t)(h1:t<1000)(q:QD (.str (ln ("unless" :: toS t::Ex.words e))) μ):WP (Bk [.tup [.str "unless",e.toD,.int t]]) μ QD:=by
 have l5:=Cv he;unfold Bk;refine Fp rfl ?_;unfold Gb;wtm_at "a";refine Ce 1 rfl (by simp) ?_;wtm_at "a";refine KI ?_;wtm_at "a";refine Ke (ws0:=["unless"]) (xs:=[(.int t,[toS t]),(e.toD,Ex.words e)]) (λa ha=>?_) (by simp[fl];omega) λo'=>?_
 ·rcases AAI.mp ha with rfl|ha
  ·exact Ft h0 h1
  ·rw[AAK] at ha;subst ha;exact Fu 5 6 e (by decide) (by decide) he
 refine Ax (FH (Cy (y := " ") (BV ⟨rfl,?_⟩)));wtm_at "a";refine FS (ws := "unless" :: toS t::Ex.words e) ?_ (Hf (r:=.unless e t) ⟨he,h0,h1⟩) (by simp;omega) ?_
 ·show (match (μ++[MO.lst (_)])[μ.length]? with|some (.lst ds')=>some (ds',μ++[MO.lst (_)])|_=>none)=_;rw[CH];simp[fl]
 ·exact⟨_,_,_,rfl,rfl,by simp[Cl],q⟩
theorem E8(h:Do 6 d ws):∀a∈[(d,ws)],Do 6 a.1 a.2:=λa ha=>by rw[AAK] at ha;subst ha;exact h
theorem D9(h:Do 6 d ws)(hl:∀a∈l,Do 6 a.1 a.2):∀a∈(d,ws)::l,Do 6 a.1 a.2:=λa ha=>by
 rcases AAI.mp ha with rfl|ha
 ·exact h
 ·exact hl a ha
theorem Wz:∀a∈([]:List (D×List Str)),Do 6 a.1 a.2:=λ_ z=>nomatch z
theorem SA(h:Rw.Rd r)(q:QD (.str (ln (Rw.ws r))) μ):WP (Bk [r.toD]) μ QD:=by
 have hg:=Hf h;have hl:=M6 h;cases r with
 |put bx e=>exact C5 (xs:=[(.str bx,[bx]),(e.toD,Ex.words e)]) (by decide +kernel) (by decide +kernel) (D9 ET (E8 (Fu 5 6 e (by decide) (by decide) h.2))) (by simpa[Rw.ws,fl] using hg) (by simp[Rw.ws,fl] at hl ⊢;omega) (by simpa[Rw.ws,fl] using q)
 |get x bx=>exact C5 (xs:=[(.str x,[x]),(.str bx,[bx])]) (by decide +kernel) (by decide +kernel) (D9 ET (E8 ET)) (by simpa[Rw.ws,fl] using hg) (by simp[fl]) (by simpa[Rw.ws,fl] using q)
 |letr x e=>exact C5 (xs:=[(.str x,[x]),(e.toD,Ex.words e)]) (by decide +kernel) (by decide +kernel) (D9 ET (E8 (Fu 5 6 e (by decide) (by decide) h.2))) (by simpa[Rw.ws,fl] using hg) (by simp[Rw.ws,fl] at hl ⊢;omega) (by simpa[Rw.ws,fl] using q)
 | «unless» e t=>exact R9 h.1 h.2.1 h.2.2 q
 |jump t=>exact C5 (xs:=[(.int t,[toS t])]) (by decide +kernel) (by decide +kernel) (E8 (Ft h.1 h.2)) (by simpa[Rw.ws,fl] using hg) (by simp[fl]) (by simpa[Rw.ws,fl] using q)
 |tell e=>exact C5 (xs:=[(e.toD,Ex.words e)]) (by decide +kernel) (by decide +kernel) (E8 (Fu 5 6 e (by decide) (by decide) h)) (by simpa[Rw.ws,fl] using hg) (by simp[Rw.ws,fl] at hl ⊢;omega) (by simpa[Rw.ws,fl] using q)
 |done=>exact C5 (xs:=[]) (by decide +kernel) (by decide +kernel) Wz (by simpa[Rw.ws,fl] using hg) (by simp[fl]) (by simpa[Rw.ws,fl] using q)
theorem SB(h:Fj m.kd m.sz m.bg)(q:QD (.str (ln (Mk.ws m))) μ):WP (Bk [.tup [.str "makes",.str m.kd,.int m.sz,.int m.bg]]) μ QD:=
 C5 (xs:=[(.str m.kd,[m.kd]),(.int m.sz,[toS m.sz]),(.int m.bg,[toS m.bg])]) (by decide +kernel) (by decide +kernel) (D9 ET (D9 (Ft (by have:=h.2.1;omega) (by have:=h.2.2.1;omega)) (E8 (Ft h.2.2.2.1 (by have:=h.2.2.1;have:=h.2.2.2.2;omega))))) (by simpa[Mk.ws,fl] using RF h) (by simp[fl]) (by simpa[Mk.ws,fl] using q)
theorem SE(h1:GoodName b.nm)(h:Fj b.kd b.sz b.bg)(h2:GoodName b.wr)(q:QD (.str (ln (Bx.ws b))) μ):WP (Bk [.tup [.str "box",.str b.nm,.str b.kd,.int b.sz,.int b.bg,.str b.wr]]) μ QD:=
 C5 (xs:=[(.str b.nm,[b.nm]),(.str b.kd,[b.kd]),(.int b.sz,[toS b.sz]),(.int b.bg,[toS b.bg]),(.str b.wr,[b.wr])]) (by decide +kernel) (by decide +kernel) (D9 ET (D9 ET (D9 (Ft (by have:=h.2.1;omega) (by have:=h.2.2.1;omega)) (D9 (Ft h.2.2.2.1 (by have:=h.2.2.1;have:=h.2.2.2.2;omega)) (E8 ET))))) (by simpa[Bx.ws,fl] using Ox h1 h h2) (by simp[fl]) (by simpa[Bx.ws,fl] using q)
theorem SD(h1:GoodName h.nm)(h2:0<=h.wi)(h3:h.wi<=400)(q:QD (.str (ln (Hd.ws h))) μ):WP (Bk [.tup [.str "hand",.str h.nm,.int h.wi]]) μ QD:=
 C5 (xs:=[(.str h.nm,[h.nm]),(.int h.wi,[toS h.wi])]) (by decide +kernel) (by decide +kernel) (D9 ET (E8 (Ft h2 (by omega)))) (by simpa[Hd.ws,fl] using Rj h1 h2 h3) (by simp[fl]) (by simpa[Hd.ws,fl] using q)
end
theorem C7:∀{ws:List Str},ws≠[]->ln (x::ws)=x ++ " " ++ ln ws
 |[],h=>absurd rfl h
 |y::r,_=>rfl
theorem Fi(x y z:Str):x++y++z=x++(y++z):=M2 (by simp[Iu])
theorem Rp(e:Ex):Ex.words e≠[]:=by cases e<;>simp[Ex.words]
theorem K9(h:∀w∈ws,Gw w):(ln ws).length<=ws.length * 9:=by
 unfold ln;rw[OD];exact LC (B:=8) λw hw=>(h w hw).le
section
variable{μ:Mh}{τ:Sl}{QD:D->Mh->Prop}{x y w:Str}
theorem Bb(h:x.length+y.length<=1000000)(q:QD (.str (x++y)) μ):WP (BK (.str x) (.str y)) μ QD:=by
 refine Aw (a:=.str (x++y)) (μ':=μ) ?_ q;show bnd (lim (x.length+y.length)) (λ_=>ret (D.str (x++y))) μ=_;rw[AO (JO (by rw[sizeLine_eq];omega) μ)];rfl
theorem G0:∀(k n:Nat) (e:Ex) (μ:Mh) (QD:D->Mh->Prop),k<=n->k<=6->Ex.Rd k e->QD (.lst ((Ex.words e).map D.str)) μ->WP (Dg n [e.toD]) μ QD
 |0,_,_,_,_,_,_,h,_=>h.elim
 |k+1,0,_,_,_,hk,_,_,_=>absurd hk (by omega)
 |k+1,n+1,.num i,μ,QD,_,_,h,q=>by
  have h0:=h.1;have h1:i<1000:=by have:=h.2;omega
  unfold Dg;refine Ap rfl ?_;unfold Gi Ex.toD;wtm_at "a";refine Fk (xs:=["num", "var"]) (by decide +kernel) ?_;wtm_at "a";exact⟨_,_,rfl,q⟩
 |k+1,n+1,.var x,μ,QD,_,_,h,q=>by
  unfold Dg;refine Ap rfl ?_;unfold Gi Ex.toD;wtm_at "a";refine Fk (xs:=["num", "var"]) (by decide +kernel) ?_;wtm_at "a";exact⟨_,_,rfl,q⟩
 |k+1,n+1,.neg e,μ,QD,hk,h6,h,q=>by
  have hl:=FM k e h;have h64:2 ^ k<=2 ^ 6:=Nat.pow_le_pow_right (by decide) (by omega);unfold Dg;refine Ap rfl ?_;unfold Gi Ex.toD;wtm_at "a";refine Eh (xs:=["num", "var"]) (by decide +kernel) ?_;wtm_at "a";refine Ce 1 rfl (by simp) ?_;wtm_at "a";refine DU (BN ?_);wtm_at "a";refine G0 k n e _ _ (by omega) (by omega) h ?_;refine IG (by simp;omega) (By (Gx ?_));wtm_at "a";exact⟨_,_,rfl,q⟩
 |k+1,n+1,.pair w a b,μ,QD,hk,h6,h,q=>by
  have hla:=FM k a h.2.1;have hlb:=FM k b h.2.2;have h64:2 ^ k<=2 ^ 6:=Nat.pow_le_pow_right (by decide) (by omega);unfold Dg;refine Ap rfl ?_;unfold Gi Ex.toD;wtm_at "a";refine Eh (xs:=["num", "var"]) (RB h.1) ?_;wtm_at "a";refine Ce 1 rfl (by simp) ?_;wtm_at "a";refine DU (BN ?_);wtm_at "a";refine G0 k n a _ _ (by omega) (by omega) h.2.1 ?_;refine IG (by simp;omega) (By (DU (BN ?_)));wtm_at "a";refine G0 k n b _ _ (by omega) (by omega) h.2.2 ?_;refine IG (by simp;omega) (By (Gx ?_));wtm_at "a";refine⟨_,_,rfl,?_⟩;simpa[Ex.words] using q
theorem RP:("put" : Str).length=3/\("let" : Str).length=3/\(" " : Str).length=1/\("unless " : Str).length=7/\("tell " : Str).length=5/\("jump " : Str).length=5/\("makes " : Str).length=6/\("hand " : Str).length=5:=by decide +kernel
theorem Vk:("unless " : Str) = "unless" ++ " " /\ ("tell " : Str) = "tell" ++ " " /\ ("jump " : Str) = "jump" ++ " " /\ ("makes " : Str) = "makes" ++ " " /\ ("hand " : Str) = "hand" ++ " " := by decide +kernel
theorem Ml(he:Ex.Rd 5 e)(h:WP (ma τ) μ λd ν=>d=e.toD/\ν=μ)(q:QD (.str (ln (Ex.words e))) μ):WP (Dy DY (mC (.str " ")) (AC (AF (Dg 6) (AC ma AJ)) AJ) τ) μ QD:=by
 refine Cy (y := " ") (BV ⟨rfl,Af (Av (Af (Am h λd ν ⟨e1,e2⟩=>?_)))⟩);subst e1 e2;refine Ab (G0 5 6 e _ _ (by decide) (by decide) he (Ab ?_));exact FS rfl (Fd 5 e he) (by rw[show (Ex.words e).length=(Ex.words e).length from rfl];have:=Cv he;omega) q
theorem Ty(h:Rw.Rd r)(q:QD (.str (ln (Rw.ws r))) μ):WP (FF [r.toD]) μ QD:=by
 obtain⟨t1,t2,t3,t4,t5,t6,t7,t8⟩:=RP;obtain⟨s1,s2,s3,s4,s5⟩:=Vk;unfold FF;refine Ap rfl ?_;unfold Jn;cases r with
 |put bx e=>
  have hb:=(Db h.1).le;have hn:=K9 (Fd 5 e h.2);have l5:=Cv h.2;unfold Rw.toD;wtm_at "a";refine Bb (by omega) ?_;wtm_at "a";refine Bb (by rw[A6];omega) ?_;wtm_at "a";refine Bb (by rw[A6,A6];omega) ?_;refine Ml h.2 (BI (AT rfl (BV (JD rfl ⟨rfl,rfl⟩)))) ?_;refine Bb (by rw[A6,A6,A6];omega) ?_;refine HX ⟨_,_,rfl,?_⟩;rw[show Rw.ws (.put bx e)=("put" : Str)::bx::Ex.words e from rfl,C7 (by simp),C7 (Rp e)] at q;simpa[Fi] using q
 |get x bx=>
  unfold Rw.toD;wtm_at "a";refine Cy (y := " ") (BV ⟨rfl,?_⟩);wtm_at "a";refine FS (ws:=["get",x,bx]) rfl (Hf h) (by simp) ?_;exact⟨_,_,rfl,q⟩
 |letr x e=>
  have hb:=(Db h.1).le;have hn:=K9 (Fd 5 e h.2);have l5:=Cv h.2;unfold Rw.toD;wtm_at "a";refine Bb (by omega) ?_;wtm_at "a";refine Bb (by rw[A6];omega) ?_;wtm_at "a";refine Bb (by rw[A6,A6];omega) ?_;refine Ml h.2 (BI (AT rfl (BV (JD rfl ⟨rfl,rfl⟩)))) ?_;refine Bb (by rw[A6,A6,A6];omega) ?_;refine HX ⟨_,_,rfl,?_⟩;rw[show Rw.ws (.letr x e)=("let" : Str)::x::Ex.words e from rfl,C7 (by simp),C7 (Rp e)] at q;simpa[Fi] using q
 | «unless» e t=>
  have h0:=h.2.1;have h1:=h.2.2;have hb:=(DZ h0 h1).le;have hn:=K9 (Fd 5 e h.1);have l5:=Cv h.1;unfold Rw.toD;wtm_at "a";refine Bb (by omega) ?_;wtm_at "a";refine Bb (by rw[A6];omega) ?_;refine Ml h.1 (BI (AT rfl (BV (JD rfl ⟨rfl,rfl⟩)))) ?_;refine Bb (by rw[A6,A6];omega) ?_;refine HX ⟨_,_,rfl,?_⟩;rw[show Rw.ws (.unless e t)=("unless" : Str)::toS t::Ex.words e from rfl,C7 (by simp),C7 (Rp e),←s1] at q;simpa[Fi] using q
 |jump t=>
  have h0:=h.1;have h1:=h.2;have hb:=(DZ h0 h1).le;unfold Rw.toD;wtm_at "a";refine Bb (by omega) ?_;refine HX ⟨_,_,rfl,?_⟩;rw[show Rw.ws (.jump t)=[("jump" : Str),toS t] from rfl,C7 (by simp),←s3] at q;exact q
 |tell e=>
  have hn:=K9 (Fd 5 e h);have l5:=Cv h;unfold Rw.toD;wtm_at "a";refine Ml h (BI (AT rfl (BV (JD rfl ⟨rfl,rfl⟩)))) ?_;refine Bb (by omega) ?_;refine HX ⟨_,_,rfl,?_⟩;rw[show Rw.ws (.tell e)=("tell" : Str)::Ex.words e from rfl,C7 (Rp e),←s2] at q;exact q
 |done=>
  unfold Rw.toD;wtm_at "a";refine Cy (y := " ") (BV ⟨rfl,?_⟩);wtm_at "a";refine FS (ws:=["done"]) rfl (Hf h) (by simp) ?_;exact⟨_,_,rfl,q⟩
end
noncomputable def Lh(b:Bx):D×Str:=(.tup [.str "box",.str b.nm,.str b.kd,.int b.sz,.int b.bg,.str b.wr],ln (Bx.ws b))
noncomputable def TJ(h:Hd):D×Str:=(.tup [.str "hand",.str h.nm,.int h.wi],ln (Hd.ws h))
noncomputable def Ph(r:Rw):D×Str:=(r.toD,ln (Rw.ws r))
noncomputable def OY(m:Mk):D×Str:=(.tup [.str "makes",.str m.kd,.int m.sz,.int m.bg],ln (Mk.ws m))
noncomputable def DD:List Hd->List (D×Str)
 |[]=>[]
 |h::hs=>TJ h::(h.rs.map Ph++DD hs)
noncomputable def FX(m:Mk):List (D×Str):=OY m::(m.bs.map Lh++DD m.hs)
noncomputable def BW(m:Mk):List Str:=(FX m).map (·.2)
theorem Gk:∀a b:List Hd,DD (a++b)=DD a++DD b
 |[],b=>rfl
 |h::a,b=>by
  show TJ h::(h.rs.map Ph++DD (a++b))=_;rw[Gk a b];simp[DD]
theorem Oj:∀hs:List Hd,(∀h∈hs,h.rs.length<=60)->(DD hs).length<=hs.length * 61
 |[],_=>AAi _
 |h::hs,hr=>by
  have h1:=hr h AAP;have h2:=Oj hs λq hq=>hr q (AAQ _ hq);show (TJ h::(h.rs.map Ph++DD hs)).length<=_;rw[AAH,AAG,AAF,AAH,Nat.add_mul];omega
structure Mk.Rd(m:Mk):Prop where
 ok:m.Ok
 wr:∀b∈m.bs,GoodName b.wr
 rows:∀h∈m.hs,∀r∈h.rs,Rw.Rd r
theorem LJ{wr:Bool}:∀(k:Nat) (e:Ex),e.Ok k->(∀x∈e.vars,Rz wr x)->Ex.Rd k e
 |0,_,h,_=>h
 |k+1,.num i,h,_=>h
 |k+1,.var x,h,hv=>⟨h,(hv x (by simp[Ex.vars])).2.1⟩
 |k+1,.neg e,h,hv=>LJ k e h hv
 |k+1,.pair w a b,h,hv=>⟨h.1,LJ k a h.2.1 λx hx=>hv x (by simp[Ex.vars,hx]),LJ k b h.2.2 λx hx=>hv x (by simp[Ex.vars,hx])⟩
theorem ZQ{L:List (Key×D)}{nm:Str}{wr:Bool}{l:Nat}{r:Rw}(hl:l<=60)(h:r.Ok L nm wr l):Rw.Rd r:=by
 have hf:=h.form;have hv:=h.vars;cases r with
 |put bx e=>exact⟨hf.1,LJ 5 e hf.2 hv⟩
 |get x bx=>exact hf
 |letr x e=>exact⟨hf.1,LJ 5 e hf.2 λy hy=>hv y (by simp[Rw.vars,hy])⟩
 | «unless» e t=>exact⟨LJ 5 e hf.1 hv,hf.2.1,by have:=hf.2.2;omega⟩
 |jump t=>exact⟨hf.1,by have:=hf.2;omega⟩
 |tell e=>exact LJ 5 e hf hv
 |done=>trivial
theorem Yl{m:Mk}(h:m.Ok):Mk.Rd m:=⟨h,λb hb=>by
 have:=h.writers b hb;rw[AAL] at this;obtain⟨q,hq,e⟩:=this;rw[←e];exact(h.hands q hq).1,λq hq r hr=>by
 obtain⟨i,e⟩:=List.mem_iff_getElem?.mp hq;exact ZQ (h.hands q hq).2.2.2 (h.rows i q e r hr)⟩
theorem Km{m:Mk}(h:m.Ok):(FX m).length<=251:=by
 have h1:=h.most;have h2:=Oj m.hs λq hq=>(h.hands q hq).2.2.2;have h3:=h.mosth;show (OY m::(m.bs.map Lh++DD m.hs)).length<=251;rw[AAH,AAG,AAF];omega
section
variable{μ:Mh}{τ:Sl}{QD:D->Mh->Prop}{ds:List D}
def Nn(a:D×Str):Prop:=(a.2.length<=300/\HG 10 a.2)/\∀(μ:Mh) (QD:D->Mh->Prop),QD (.str a.2) μ->WP (Bk [a.1]) μ QD
theorem cq{ws:List Str}(h:∀w∈ws,Gw w):HG 10 (ln ws):=by
 unfold ln;rw[OD];exact MP (by decide) λw hw=>(h w hw).nl
theorem Qm{ws:List Str}(h:∀w∈ws,Gw w)(hl:ws.length<=33):(ln ws).length<=300/\HG 10 (ln ws):=⟨by have:=K9 h;omega,cq h⟩
theorem ZO{r:Rw}(h:Rw.Rd r):Nn (Ph r):=⟨Qm (Hf h) (M6 h),λμ QD q=>SA h q⟩
theorem Pc{m:Mk}(h:Mk.Rd m):∀a∈FX m,Nn a:=by
 intro a ha;have hh:∀hs:List Hd,(∀q∈hs,q∈m.hs)->∀a∈DD hs,Nn a:=λhs=>by
  induction hs with
  |nil=>intro _ a ha;cases ha
  |cons q hs ih=>
   intro hq a ha;have hm:=hq q AAP;have ok:=h.ok.hands q hm;rcases AAI.mp ha with rfl|ha
   ·exact⟨Qm (Rj ok.1 ok.2.1 ok.2.2.1) (by simp[Hd.ws]),λμ QD z=>SD ok.1 ok.2.1 ok.2.2.1 z⟩
   ·rcases AAJ.mp ha with ha|ha
    ·rw[AAL] at ha;obtain⟨r,hr,rfl⟩:=ha;exact ZO (h.rows q hm r hr)
    ·exact ih (λz hz=>hq z (AAQ _ hz)) a ha
 rcases AAI.mp ha with rfl|ha
 ·exact⟨Qm (RF h.ok.worth) (by simp[Mk.ws]),λμ QD z=>SB h.ok.worth z⟩
 ·rcases AAJ.mp ha with ha|ha
  ·rw[AAL] at ha;obtain⟨b,hb,rfl⟩:=ha;have ok:=h.ok.boxes b hb;exact⟨Qm (Ox ok.1 ok.2 (h.wr b hb)) (by simp[Bx.ws]),λμ QD z=>SE ok.1 ok.2 (h.wr b hb) z⟩
  ·exact hh m.hs (λ_ z=>z) a ha
theorem QG{n:Nat}{ν:Mh}(h:ν[n]?=some (.lst ds)):O6 (.ref n) ν=some (ds,ν):=by
 show (match ν[n]? with|some (.lst ds)=>some (ds,ν)|_=>none)=_;rw[h]
theorem We{φ:List D->M D}(h:WP (φ ds) μ λd ν=>ν=μ/\QD d μ):WP (Kw φ ds) μ QD:=by
 obtain⟨d,ν,e,rfl,q⟩:=h;refine⟨d,_,?_,q⟩;unfold Kw;rw[e];dsimp only;rw[if_pos rfl]
theorem Wf{gs:Mh}{i:Nat}{ra:Sl->M (List D)}(ht:τ[i]?=some (some (.ref gs.length)))(h:WP (ra τ) (gs++[.lst ds]) λes μ1=>∃zs,es=[.tup zs]/\μ1=gs++[.lst ds]/\ds.length+zs.length<=1000000/\QD .non (gs++[.lst (ds++zs)])):WP (BB Ro (AD i) ra τ) (gs++[.lst ds]) QD:=by
 unfold BB;refine Aa (AT ht (Aa ⟨(),_,Ih (CH _ _),Aa (Am h ?_)⟩));rintro es μ1 ⟨zs,rfl,rfl,hl,q⟩;refine Aw (a:=.non) (μ':=gs++[.lst (ds++zs)]) ?_ q;show FI gs.length (λds=>if ds.length+zs.length<=sizeLine then some (.non,ds++zs) else none) (gs++[.lst ds])=_;unfold FI;rw[CH];dsimp only;rw[if_pos (by rw[sizeLine_eq];omega)];simp
theorem Nv{ls:List Str}{d:D}(hd:Bl d μ=some (ls.map D.str,μ))(h:∀l∈ls,l.length<=300)(hl:ls.length<=1000)(q:QD (.str (tx ls)) μ):WP (DY (.str "\n") [d]) μ QD:=by
 unfold tx at q;rw[Vc] at q ⊢;exact Qb (B:=300) hd h (by rw[sizeLine_eq];omega) q
theorem IJ{m:Mk}(h:Mk.Rd m)(q:QD (.str (tx (BW m))) μ):WP (CW [m.toD]) μ QD:=by
 have hs:=Pc h;have hl:=Km h.ok;have hb6:=h.ok.most;unfold CW;refine Fp rfl ?_;unfold Gc Mk.toD;refine A0 (C6 ?_);wtm_at "a";refine Nu 3 rfl ?_;refine Gy (ds:=[]) (by simp) ?_;wtm_at "a";refine Fo (I:=λrest τ ν=>∃(done todo:List Bx) (o:Option D),done++todo=m.bs/\rest=todo.map Bx.toD/\τ=[some m.toD,some (.ref μ.length),o,none]/\ν=μ++[.lst (((OY m::done.map Lh)).map (·.1))]) ?_ ?_ ⟨[],m.bs,none,rfl,rfl,rfl,rfl⟩
 ·rintro y ys τ ν ⟨done,todo,o,e,er,rfl,rfl⟩;cases todo with
  |nil=>cases er
  |cons b todo=>
   obtain⟨rfl,rfl⟩:=List.cons.inj er;have hlen:=congrArg List.length e;rw[AAG,AAH] at hlen;refine BN (Cf (E7 (gs:=μ) rfl (by rw[sizeLine_eq];simp;omega) ?_));unfold Bx.toD;wtm_at "a";refine Gy (ds:=[]) (by simp) ?_;refine Ab ⟨μ,_,rfl,rfl,rfl,By ⟨done++[b],todo,_,by rw[←e];simp,rfl,rfl,by simp[Lh]⟩⟩
 ·rintro τ ν ⟨done,todo,o,e,er,rfl,rfl⟩;cases todo with
  |cons b todo=>cases er
  |nil=>
   rw[AAY] at e;subst e;refine Ax (A0 (JE ?_));unfold Mk.toD;wtm_at "a";refine Fo (I:=λrest τ ν=>∃(done todo:List Hd) (o':Option D),done++todo=m.hs/\rest=todo.map Hd.toD/\τ=[some m.toD,some (.ref μ.length),o,o']/\ν=μ++[.lst (((OY m::(m.bs.map Lh++DD done))).map (·.1))]) ?_ ?_ ⟨[],m.hs,none,rfl,rfl,rfl,by simp[DD]⟩
   ·rintro y ys τ ν ⟨done,todo,o',e,er,rfl,rfl⟩;cases todo with
    |nil=>cases er
    |cons q todo=>
     obtain⟨rfl,rfl⟩:=List.cons.inj er;have hdl:(DD done).length+(1+q.rs.length+(DD todo).length)<=251:=by
      have:(FX m).length=1+(m.bs.length+(DD (done++q::todo)).length):=by rw[e];simp[FX];omega
      rw[Gk] at this;simp[DD] at this;omega
     refine BN (A0 (Cf (E7 (gs:=μ) rfl (by rw[sizeLine_eq];simp;omega) ?_)));unfold Hd.toD;wtm_at "a";refine Nu 2 rfl ?_;refine Gy (ds:=[]) (by simp) ?_;refine Ab ⟨μ,_,rfl,rfl,rfl,Ax (Cf (Wf (gs:=μ) rfl ?_))⟩;wtm_at "a";refine⟨_,rfl,rfl,by simp;omega,By ⟨done++[q],todo,_,by rw[←e];simp,rfl,rfl,?_⟩⟩;rw[Gk];simp[DD,TJ,Ph,Function.comp_def]
   ·rintro τ ν ⟨done,todo,o',e,er,rfl,rfl⟩;cases todo with
    |cons b todo=>cases er
    |nil=>
     rw[AAY] at e;subst e;have hrows:OY m::(m.bs.map Lh++DD m.hs)=FX m:=rfl;rw[hrows];refine Ax (FH (Cy (y := "\n") (BV ⟨rfl,Af (Fm ?_)⟩)));refine Aa (AT rfl ⟨(FX m).map (·.1),μ++[.lst ((FX m).map (·.1))],?_,by rw[AAF,sizeLine_eq];omega,?_⟩)
     ·exact QG (CH _ _)
     ·refine Ei (λa:D×Str=>a.1) (λ_=>true) (λa=>D.str a.2) (λa ha=>BN ⟨rfl,E6 ⟨rfl,rfl,λ_=>?_⟩⟩) ?_
      ·refine Av (Af (AT rfl (Ab (We ?_))));exact(hs a ha).2 _ _ ⟨rfl,rfl,rfl⟩
      ·rw[fil];refine D8 (by rw[AAF,sizeLine_eq];omega) (Ab ?_);refine Nv (ls:=BW m) (by show some ((FX m).map (λa=>D.str a.2),_)=_;simp[BW,Function.comp_def]) (λl hl=>?_) (by simp[BW];omega) ?_
       ·unfold BW at hl;rw[AAL] at hl;obtain⟨a,ha,rfl⟩:=hl;exact(hs a ha).1.1
       ·exact⟨_,_,_,rfl,rfl,by simp[Cl],q⟩
end
section
variable{μ:Mh}{τ:Sl}{QD:D->Mh->Prop}{ds:List D}
theorem Tp(q:QT (((((τ.set i (some a)).set j (some b)).set k (some c)).set l (some d)).set n (some e)) μ):WP (DT [i,j,k,l,n] (.tup [a,b,c,d,e]) τ) μ QT:=⟨_,μ,rfl,q⟩
theorem Wh(h:μ[n]?=some (.lst ds))(hl:ds.length+bs.length<=1000000)(q:QD (.ref μ.length) (μ++[.lst (ds++bs)])):WP (M8 (.ref n) (.lst bs)) μ QD:=by
 refine Aw (a:=.ref μ.length) (μ':=μ++[.lst (ds++bs)]) ?_ q;show (match μ[n]? with|some (.lst as)=>Dq (as++bs) μ|_=>none)=_;rw[h];show bnd (lim (ds++bs).length) _ μ=_;rw[AO (JO (by rw[sizeLine_eq,AAG];omega) μ)]
theorem T4(h:Mk.Rd m)(q:QD (.str (tx (BW m))) μ):WP (J9 [m.toD]) μ QD:=by
 obtain⟨t1,t2,t3,t4,t5,t6,t7,t8⟩:=RP;obtain⟨s1,s2,s3,s4,s5⟩:=Vk;have hs:=Pc h;have hl:=Km h.ok;have hb6:=h.ok.most;have hw:=h.ok.worth;have k0:0<=m.sz:=by have:=hw.2.1;omega
 have k1:m.sz<1000:=by have:=hw.2.2.1;omega
 have k2:=hw.2.2.2.1;have k3:m.bg<1000:=by have:=hw.2.2.1;have:=hw.2.2.2.2;omega
 have n1:=(NT hw.1).le;have n2:=(DZ k0 k1).le;have n3:=(DZ k2 k3).le;unfold J9;refine Fp rfl ?_;unfold RL Mk.toD;refine A0 (C6 ?_);wtm_at "a";refine Bb (by omega) ?_;wtm_at "a";refine Bb (by rw[A6];omega) ?_;wtm_at "a";refine Bb (by rw[A6,A6];omega) ?_;wtm_at "a";refine Bb (by rw[A6,A6,A6];omega) ?_;wtm_at "a";refine Bb (by rw[A6,A6,A6,A6];omega) ?_;have e0:("makes " : Str)++m.kd ++ " " ++ toS m.sz ++ " " ++ toS m.bg=ln (Mk.ws m):=by
  show _=ln (("makes" : Str)::m.kd::toS m.sz::[toS m.bg]);rw[C7 (by simp),C7 (by simp),C7 (by simp),s4,show ln [toS m.bg]=toS m.bg from rfl];simp[Fi]
 rw[e0];wtm_at "a";refine Fo (I:=λrest τ ν=>∃(done todo:List Bx) (o2 o3 o4 o5 o6:Option D),done++todo=m.bs/\rest=todo.map Bx.toD/\τ=[some m.toD,some (.ref μ.length),o2,o3,o4,o5,o6,none,none]/\ν=μ++[.lst ((((OY m::done.map Lh)).map (·.2)).map D.str)]) ?_ ?_ ⟨[],m.bs,none,none,none,none,none,rfl,rfl,rfl,rfl⟩
 ·rintro y ys τ ν ⟨done,todo,o2,o3,o4,o5,o6,e,er,rfl,rfl⟩;cases todo with
  |nil=>cases er
  |cons b todo=>
   obtain⟨rfl,rfl⟩:=List.cons.inj er;have hb:b∈m.bs:=by rw[←e];simp
   have ok:=h.ok.boxes b hb;have hlen:=congrArg List.length e;rw[AAG,AAH] at hlen;have k0:0<=b.sz:=by have:=ok.2.2.1;omega
   have k1:b.sz<1000:=by have:=ok.2.2.2.1;omega
   have k2:=ok.2.2.2.2.1;have k3:b.bg<1000:=by have:=ok.2.2.2.1;have:=ok.2.2.2.2.2;omega
   refine Tp (Cf (E7 (gs:=μ) rfl (by rw[sizeLine_eq];simp;omega) ?_));refine Af (Cy (y := " ") (BV ⟨rfl,Af ?_⟩));wtm_at "a";refine FS (ws:=Bx.ws b) rfl (Ox ok.1 ok.2 (h.wr b hb)) (by simp[Bx.ws]) ?_;refine Ab ⟨μ,_,rfl,rfl,rfl,By ⟨done++[b],todo,_,_,_,_,_,by rw[←e];simp,rfl,rfl,by simp[Lh]⟩⟩
 ·rintro τ ν ⟨done,todo,o2,o3,o4,o5,o6,e,er,rfl,rfl⟩;cases todo with
  |cons b todo=>cases er
  |nil=>
   rw[AAY] at e;subst e;refine Ax (A0 (JE ?_));unfold Mk.toD;wtm_at "a";refine Fo (I:=λrest τ ν=>∃(done todo:List Hd) (p2 p7 p8:Option D) (gs:Mh),done++todo=m.hs/\rest=todo.map Hd.toD/\τ=[some m.toD,some (.ref (μ++gs).length),p2,o3,o4,o5,o6,p7,p8]/\ν=(μ++gs)++[.lst ((((OY m::(m.bs.map Lh++DD done))).map (·.2)).map D.str)]) ?_ ?_ ⟨[],m.hs,o2,none,none,[],rfl,rfl,by simp;rfl,by simp[DD]⟩
   ·rintro y ys τ ν ⟨done,todo,p2,p7,p8,gs,e,er,rfl,rfl⟩;cases todo with
    |nil=>cases er
    |cons q todo=>
     obtain⟨rfl,rfl⟩:=List.cons.inj er;have hq:q∈m.hs:=by rw[←e];simp
     have ok:=h.ok.hands q hq;have hdl:(DD done).length+(1+q.rs.length+(DD todo).length)<=251:=by
      have:(FX m).length=1+(m.bs.length+(DD (done++q::todo)).length):=by rw[e];simp[FX];omega
      rw[Gk] at this;simp[DD] at this;omega
     have k0:=ok.2.1;have k1:q.wi<1000:=by have:=ok.2.2.1;omega
     have n1:=(Db ok.1).le;have n2:=(DZ k0 k1).le;refine UE (A0 (Cf (E7 (gs:=μ++gs) rfl (by rw[sizeLine_eq];simp;omega) ?_)));wtm_at "a";refine Bb (by omega) ?_;wtm_at "a";refine Bb (by rw[A6];omega) ?_;wtm_at "a";refine Bb (by rw[A6,A6];omega) ?_;have e1:("hand " : Str)++q.nm ++ " " ++ toS q.wi=ln (Hd.ws q):=by
      show _=ln (("hand" : Str)::q.nm::[toS q.wi]);rw[C7 (by simp),C7 (by simp),s5,show ln [toS q.wi]=toS q.wi from rfl];simp[Fi]
     rw[e1];refine Ab ⟨μ++gs,_,rfl,rfl,rfl,Ax (C6 (BI (AT rfl (Fm ?_))))⟩;refine KK (AT rfl (Mo ⟨by rw[AAF,sizeLine_eq];omega,?_⟩));refine Ei Rw.toD (λ_=>true) (λr=>D.str (ln (Rw.ws r))) (λr hr=>BN ⟨rfl,E6 ⟨rfl,rfl,λ_=>?_⟩⟩) ?_
     ·exact Av (Af (AT rfl (Ab (Ty (h.rows q hq r hr) ⟨rfl,rfl⟩))))
     ·rw[fil];refine D8 (by rw[AAF,sizeLine_eq];omega) (Wh (CH _ _) (by simp;omega) (By ⟨done++[q],todo,_,_,_,gs++[.lst _],by rw[←e];simp,rfl,by rw[←AAk];rfl,?_⟩));rw[←AAk];congr 2;rw[Gk];simp[DD,TJ,Ph,Function.comp_def]
   ·rintro τ ν ⟨done,todo,p2,p7,p8,gs,e,er,rfl,rfl⟩;cases todo with
    |cons b todo=>cases er
    |nil=>
     rw[AAY] at e;subst e;refine Ax (FH (Cy (y := "\n") (BV ⟨rfl,Af (AT rfl (Ab ?_))⟩)));refine Nv (ls:=BW m) ?_ (λl hl=>?_) (by simp[BW];omega) ?_
     ·show (match ((μ++gs)++[MO.lst ((BW m).map D.str)])[(μ++gs).length]? with|some (.lst ds')=>some (ds',(μ++gs)++[MO.lst ((BW m).map D.str)])|_=>none)=_;rw[CH];rfl
     ·unfold BW at hl;rw[AAL] at hl;obtain⟨a,ha,rfl⟩:=hl;exact(hs a ha).1.1
     ·exact⟨_,_,_,rfl,by rw[AAk],by simp[Cl],q⟩
end
section
variable{μ ν:Mh}{τ:Sl}{QD:D->Mh->Prop}{QS:Fl×Sl->Mh->Prop}{ds bs hs:List D}{ps qs:List (List D)}{made y:D}{p:List D}
theorem FU(hl:Nat.beq ds.length n=true)(h:WP (mb (BQ N ds)) μ λr μ2=>∃τ2,r=(.next,τ2)/\QD .non μ2):WP (Cw .all N n mb ds) μ QD:=by
 obtain⟨r,μ2,e,τ2,rfl,q⟩:=h;refine Aw (a:=.non) (μ':=μ2) ?_ q;unfold Cw;rw[hl,e];rfl
theorem IE(h:WP (mv τ) μ λy μ1=>WP (mo τ) μ1 λx μ2=>∃n l,x=.ref n/\μ2[n]?=some (.ins c l)/\l.length<1000/\QS (.next,τ) (μ2.set n (.ins c (GF f y l)))):WP (Jk c f mo mv τ) μ QS:=by
 unfold Jk;refine Aa (Am h λy μ1 z=>Aa (Am z λx μ2 ⟨n,l,e,h1,h2,q⟩=>?_));subst e;refine Aa ⟨(n,l),μ2,?_,?_⟩
 ·unfold LTq;dsimp only;rw[h1];exact if_pos rfl
 ·exact⟨_,_,if_pos h2,q⟩
theorem Tm(h:WP (φ (.ref μ.length::ds)) (μ++[.ins c []]) λd μ'=>d=.non/\QD (.ref μ.length) μ'):WP (K4 c φ ds) μ QD:=by
 obtain⟨d,μ',e,rfl,q⟩:=h;refine⟨_,μ',?_,q⟩;unfold K4;rw[e]
theorem IF(ho:WP (mo τ) ν λd ν1=>d=.ref j/\ν1=ν)(h:ν[j]?=some (.lst ds))(hl:ds.length<1000000)(ha:WP (ra τ) ν λes ν2=>∃y,es=[y]/\ν2[j]?=some (.lst ds)/\QD .non (ν2.set j (.lst (ds++[y])))):WP (BB FQ mo ra τ) ν QD:=by
 unfold BB;refine Aa (Am ho λd ν1 ⟨e1,e2⟩=>?_);subst e1 e2;refine Aa ⟨(),_,Ih h,Aa (Am ha λes ν2 ⟨y,e,h2,q⟩=>?_)⟩;subst e;refine Aw (a:=.non) (μ':=ν2.set j (.lst (ds++[y]))) ?_ q;show FI j (λds=>if ds.length<sizeLine then some (.non,ds++[y]) else none) ν2=_;unfold FI;rw[h2];dsimp only;rw[if_pos (by rw[sizeLine_eq];omega)];rfl
noncomputable def HF(n k:Nat):List D:=(List.range k).map λi=>D.ref (n+4+i)
noncomputable abbrev rdF(n:Nat)(made:D):List (Str×D):=[("made",made),("boxes",.ref (n+1)),("hands",.ref (n+2)),("programs",.ref (n+3))]
noncomputable abbrev RH(μ:Mh)(made:D)(bs hs:List D)(ps:List (List D)):Mh:=μ++(.ins "Reading" (rdF μ.length made)::.lst bs::.lst hs::.lst (HF μ.length ps.length)::ps.map MO.lst)
theorem L0(l:Mh)(i:Nat):(μ++l)[μ.length+i]?=l[i]?:=by rw[AAR (by omega)];congr 1;omega
theorem Kn(l:Mh)(i:Nat)(o:MO):(μ++l).set (μ.length+i) o=μ++l.set i o:=by rw[AAe _ _ (by omega)];congr 2;omega
theorem Hg:(RH μ made bs hs ps)[μ.length]?=some (.ins "Reading" (rdF μ.length made)):=L0 _ 0
theorem XE:(RH μ made bs hs ps)[μ.length+1]?=some (.lst bs):=L0 _ 1
theorem Pg:(RH μ made bs hs ps)[μ.length+2]?=some (.lst hs):=L0 _ 2
theorem Ut:(RH μ made bs hs ps)[μ.length+3]?=some (.lst (HF μ.length ps.length)):=L0 _ 3
theorem ZU:(RH μ made bs hs (qs++[p]))[μ.length+4+qs.length]?=some (.lst p):=by
 rw[show μ.length+4+qs.length=μ.length+(qs.length+4) from by omega,L0];simp
theorem bt:(RH μ made bs hs ps).set μ.length (.ins "Reading" (GF "made" d (rdF μ.length made)))=RH μ d bs hs ps:=Kn _ 0 _
theorem bv:(RH μ made bs hs ps).set (μ.length+1) (.lst bs')=RH μ made bs' hs ps:=Kn _ 1 _
theorem bu:(RH μ made bs hs ps).set (μ.length+2) (.lst hs')=RH μ made bs hs' ps:=Kn _ 2 _
theorem Uu:(RH μ made bs hs ps).length=μ.length+4+ps.length:=by simp;omega
theorem L3(n k:Nat):HF n (k+1)=HF n k++[.ref (n+4+k)]:=by unfold HF;rw[List.range_succ];simp
theorem ZV:(RH μ made bs hs ps++[MO.lst []]).set (μ.length+3) (.lst (HF μ.length ps.length++[D.ref (μ.length+4+ps.length)]))=RH μ made bs hs (ps++[[]]):=by
 rw[←L3,AAk,Kn];simp
theorem br:(RH μ made bs hs (qs++[p])).set (μ.length+4+qs.length) (.lst p')=RH μ made bs hs (qs++[p']):=by
 rw[show μ.length+4+qs.length=μ.length+(qs.length+4) from by omega,Kn];simp
theorem L4(n:Nat):atI (HF n ((qs++[p]).length)) (-1)=some (.ref (n+4+qs.length)):=by
 rw[AAG,List.length_singleton,L3];have hl:(HF n qs.length).length=qs.length:=by simp[HF]
 unfold atI;have:ixN (HF n qs.length++[D.ref (n+4+qs.length)]).length (-1)=some qs.length:=by
  rw[AAG,hl];unfold ixN;simp;omega
 rw[this];show (HF n qs.length++[D.ref (n+4+qs.length)])[qs.length]?=_;rw[AAR (by omega),hl];simp
theorem pf0(d:D):GF "made" d []=[(("made" : Str),d)]:=rfl
theorem pf1(x d:D):GF "boxes" d [(("made" : Str),x)]=[(("made" : Str),x),("boxes",d)]:=by kernel_rfl
theorem pf2(x y d:D):GF "hands" d [(("made" : Str),x),("boxes",y)]=[(("made" : Str),x),("boxes",y),("hands",d)]:=by kernel_rfl
theorem pf3(x y z d:D):GF "programs" d [(("made" : Str),x),("boxes",y),("hands",z)]=[(("made" : Str),x),("boxes",y),("hands",z),("programs",d)]:=by kernel_rfl
theorem Ws(q:QD (.ref μ.length) (RH μ .non [] [] [])):WP (K4 "Reading" Ci []) μ QD:=by
 refine Tm ?_;unfold Ci;refine FU rfl ?_;unfold Ep;have a0:∀(l:Mh) (o:MO),(μ++o::l)[μ.length]?=some o:=λl o=>by rw[AAR (AAE _)];simp
 have s0:∀(l:Mh) (o o':MO),(μ++o::l).set μ.length o'=μ++o'::l:=λl o o'=>by rw[AAe _ _ (AAE _)];simp
 refine A0 (IE (BV (AT rfl ⟨_,_,rfl,a0 _ _,by simp,?_⟩)));rw[s0,pf0];refine Ax (A0 (IE (Av (Ab (IL (by simp) (AT rfl ?_))))));rw[AAk];refine⟨_,_,rfl,a0 _ _,by simp,?_⟩;rw[List.singleton_append,s0,pf1];refine Ax (A0 (IE (Av (Ab (IL (by simp) (AT rfl ?_))))));rw[AAk];refine⟨_,_,rfl,a0 _ _,by simp,?_⟩;rw[List.cons_append,s0,pf2];refine Ax (IE (Av (Ab (IL (by simp) (AT rfl ?_)))));rw[AAk];refine⟨_,_,rfl,a0 _ _,by simp,?_⟩;rw[List.cons_append,s0,pf3];refine⟨_,rfl,rfl,?_⟩;simp;exact q
end
section
variable{μ ν:Mh}{QD:D->Mh->Prop}{ds bs hs:List D}{ps qs:List (List D)}{made:D}{p:List D}{w:Str}
theorem To(q:QD (.ref (μ.length+1)) (RH μ made bs hs ps)):WP (Et "Reading" "boxes" (.ref μ.length)) (RH μ made bs hs ps) QD:=J3 Hg (by kernel_rfl) q
theorem Lp(q:QD (.ref (μ.length+2)) (RH μ made bs hs ps)):WP (Et "Reading" "hands" (.ref μ.length)) (RH μ made bs hs ps) QD:=J3 Hg (by kernel_rfl) q
theorem QU(q:QD (.ref (μ.length+3)) (RH μ made bs hs ps)):WP (Et "Reading" "programs" (.ref μ.length)) (RH μ made bs hs ps) QD:=J3 Hg (by kernel_rfl) q
theorem Nw(q:QD made (RH μ made bs hs ps)):WP (Et "Reading" "made" (.ref μ.length)) (RH μ made bs hs ps) QD:=J3 Hg (by kernel_rfl) q
theorem Ua(q:QD (.bl true) (RH μ .non bs hs ps)):WP (Aj [.ref μ.length,.str "makes"]) (RH μ .non bs hs ps) QD:=by
 unfold Aj;refine Ap rfl ?_;unfold Bh;refine A0 (CP (A5 (BI (AT rfl (BV ?_)))));wtm_at "a";refine Nw ?_;wtm_at "a";exact⟨_,_,rfl,q⟩
theorem ZM(hb:bs.length<6)(q:QD (.bl true) (RH μ (.tup ms) bs [] ps)):WP (Aj [.ref μ.length,.str "box"]) (RH μ (.tup ms) bs [] ps) QD:=by
 unfold Aj;refine Ap rfl ?_;unfold Bh;refine A0 (CP (A5 (BI (AT rfl (BV ?_)))));refine CD (by decide +kernel) (by decide +kernel) (by decide +kernel) (Be (DG (JC (Ax (A0 (CP (A5 (BI (EO (AT rfl (Nw ?_)))))))))));wtm_at "a";refine Lp (Ab (ER Pg ?_));wtm_at "a";refine To (Ab (ER XE ?_));refine BV (J2 (by show (bs.length:Int)<6;omega) ⟨_,_,rfl,q⟩)
theorem W2(hb:hs.length<4)(q:QD (.bl true) (RH μ (.tup ms) bs hs ps)):WP (Aj [.ref μ.length,.str "hand"]) (RH μ (.tup ms) bs hs ps) QD:=by
 unfold Aj;refine Ap rfl ?_;unfold Bh;refine A0 (CP (A5 (BI (AT rfl (BV ?_)))));refine CD (by decide +kernel) (by decide +kernel) (by decide +kernel) (Be (DG (JC (Ax (A0 (CP (A5 (BI (EO (AT rfl (Nw ?_)))))))))));wtm_at "a";refine Lp (Ab (ER Pg ?_));refine BV (J2 (by show (hs.length:Int)<4;omega) (HX ⟨_,_,rfl,q⟩))
theorem Tn(h:ν[n]?=some (.lst ds))(hi:atI ds i=some d)(q:QD d ν):WP (AU (.ref n) (.int i)) ν QD:=by
 refine Aw (a:=d) (μ':=ν) ?_ q;show bnd (Bl (.ref n)) (λds=>ixD ds i) ν=_;rw[AO (show Bl (.ref n) ν=some (ds,ν) from by show (match ν[n]? with|some (.lst ds')=>some (ds',ν)|_=>none)=_;rw[h])];show (atI ds i).map _=_;rw[hi];rfl
theorem ZL(h1:PyData.strOk w=true)(hw:w∉(["makes", "box", "hand"]:List Str))(hh:0<hs.length)(hp:p.length<60)(q:QD (.bl true) (RH μ (.tup ms) bs hs (qs++[p]))):WP (Aj [.ref μ.length,.str w]) (RH μ (.tup ms) bs hs (qs++[p])) QD:=by
 have n1:(w==("makes" : Str))=false:=by rw[AAd];exact λe=>hw (by simp[e])
 have n2:(w==("box" : Str))=false:=by rw[AAd];exact λe=>hw (by simp[e])
 have n3:(w==("hand" : Str))=false:=by rw[AAd];exact λe=>hw (by simp[e])
 unfold Aj;refine Ap rfl ?_;unfold Bh;refine A0 (CP (A5 (BI (AT rfl (BV ?_)))));refine CD h1 (by decide +kernel) n1 (Be (DG (JC (Ax (A0 (CP (A5 (BI (EO (AT rfl (Nw ?_)))))))))));wtm_at "a";refine CD h1 (by decide +kernel) n2 ?_;wtm_at "a";refine CD h1 (by decide +kernel) n3 ?_;wtm_at "a";refine Lp (Ab (ER Pg ?_));refine BV (QW (by omega) (JB ?_));refine BI (Av (Af (BI (EO (AT rfl (QU (EO (BV ⟨.int (-1),_,rfl,?_⟩))))))));refine Tn Ut (L4 _) (Ab (ER ZU (BV (J2 (by show (p.length:Int)<60;omega) ⟨_,_,rfl,q⟩))))
theorem UT(hl:ms.length<=100)(q:QD .non (RH μ (.tup ms) bs hs ps)):WP (A2 [.ref μ.length,.tup (.str "makes" :: ms)]) (RH μ .non bs hs ps) QD:=by
 unfold A2;refine FU rfl ?_;unfold C3;refine CP (A5 (BI (BI (AT rfl (BV (wz_ix0T (BV ?_)))))));refine II (by decide +kernel) (by decide +kernel) (by decide +kernel) (Be (G1 (IE ?_)));wtm_at "a";refine Ce 1 rfl (by simp) (AT rfl ⟨_,_,rfl,Hg,by simp,?_⟩);rw[bt];exact⟨_,rfl,q⟩
theorem ZD(hl:bs.length<=100)(q:QD .non (RH μ made (bs++[.tup b]) hs ps)):WP (A2 [.ref μ.length,.tup (.str "box" :: b)]) (RH μ made bs hs ps) QD:=by
 unfold A2;refine FU rfl ?_;unfold C3;refine CP (A5 (BI (BI (AT rfl (BV (wz_ix0T (BV ?_)))))));refine CD (by decide +kernel) (by decide +kernel) (by decide +kernel) (Be (DG ?_));refine CP (A5 (BI (BI (AT rfl (BV (wz_ix0T (BV ?_)))))));refine II (by decide +kernel) (by decide +kernel) (by decide +kernel) (Be (G1 ?_));refine Cf (IF (EO (AT rfl (To ⟨rfl,rfl⟩))) XE (by omega) ?_);wtm_at "a";refine Ce 1 rfl (by simp) (Ab ⟨_,rfl,XE,?_⟩);rw[bv];exact⟨_,rfl,q⟩
theorem Wy(hl:hs.length<=100)(hp:ps.length<=100)(q:QD .non (RH μ made bs (hs++[.tup b]) (ps++[[]]))):WP (A2 [.ref μ.length,.tup (.str "hand" :: b)]) (RH μ made bs hs ps) QD:=by
 unfold A2;refine FU rfl ?_;unfold C3;refine CP (A5 (BI (BI (AT rfl (BV (wz_ix0T (BV ?_)))))));refine CD (by decide +kernel) (by decide +kernel) (by decide +kernel) (Be (DG ?_));refine CP (A5 (BI (BI (AT rfl (BV (wz_ix0T (BV ?_)))))));refine CD (by decide +kernel) (by decide +kernel) (by decide +kernel) (Be (DG ?_));refine CP (A5 (BI (BI (AT rfl (BV (wz_ix0T (BV ?_)))))));refine II (by decide +kernel) (by decide +kernel) (by decide +kernel) (Be (G1 ?_));refine A0 (Cf (IF (EO (AT rfl (Lp ⟨rfl,rfl⟩))) Pg (by omega) ?_));wtm_at "a";refine Ce 1 rfl (by simp) (Ab ⟨_,rfl,Pg,?_⟩);rw[bu];refine Ax (Cf (IF (EO (AT rfl (QU ⟨rfl,rfl⟩))) Ut (by simp[HF];omega) ?_));refine Af (Av (Ab (IL (by simp) (Ab ⟨_,rfl,?_,?_⟩))))
 ·rw[AAS (by rw[Uu];omega)];exact Ut
 ·rw[Uu,ZV];exact⟨_,rfl,q⟩
theorem ZC(h1:PyData.strOk w=true)(hw:w∉(["makes", "box", "hand"]:List Str))(hl:p.length<=100)(q:QD .non (RH μ made bs hs (qs++[p++[.tup (.str w::r)]]))):WP (A2 [.ref μ.length,.tup (.str w::r)]) (RH μ made bs hs (qs++[p])) QD:=by
 have n1:(w==("makes" : Str))=false:=by rw[AAd];exact λe=>hw (by simp[e])
 have n2:(w==("box" : Str))=false:=by rw[AAd];exact λe=>hw (by simp[e])
 have n3:(w==("hand" : Str))=false:=by rw[AAd];exact λe=>hw (by simp[e])
 unfold A2;refine FU rfl ?_;unfold C3;refine CP (A5 (BI (BI (AT rfl (BV (wz_ix0T (BV ?_)))))));refine CD h1 (by decide +kernel) n1 (Be (DG ?_));refine CP (A5 (BI (BI (AT rfl (BV (wz_ix0T (BV ?_)))))));refine CD h1 (by decide +kernel) n2 (Be (DG ?_));refine CP (A5 (BI (BI (AT rfl (BV (wz_ix0T (BV ?_)))))));refine CD h1 (by decide +kernel) n3 (Be (DG ?_));refine Cf (IF (j:=μ.length+4+qs.length) (BI (EO (AT rfl (QU (EO (BV ⟨.int (-1),_,rfl,?_⟩)))))) ZU (by omega) ?_)
 ·exact Tn Ut (L4 _) ⟨rfl,rfl⟩
 ·refine Af (AT rfl (Ab ⟨_,rfl,ZU,?_⟩));rw[br];exact⟨_,rfl,q⟩
end
section
variable{μ ν:Mh}{τ:Sl}{QD:D->Mh->Prop}{QL:List D->Mh->Prop}{QS:Fl×Sl->Mh->Prop}{ds bs hs:List D}{ps qs:List (List D)}{made y d:D}{p:List D}{w l:Str}
noncomputable abbrev rmB:Sl->M (Fl×Sl):=(AQ (As (AF BZ (AC (AD 4) AJ)) (AM 5))
  (AQ (sIf (mOr (AR (mOp (FL false) (AD 5) (mC .non))) (Fa (AR (F3 "Reading" "lets_stand" Aj (AD 2) (AC (mOp AU (AD 5) (mC (.int 0))) AJ))))) JJ A1)
  (Ag (F3 "Reading" "take" A2 (AD 2) (AC (AD 5) AJ)))))
theorem W9(hn:ν[n]?=some (.ins "Reading" fs))(hf1:fs.lookup ("lets_stand" : Str)=none)(hf2:fs.lookup ("take" : Str)=none)(hr:∀QD:D->Mh->Prop,QD (.tup (.str w::r)) ν->WP (BZ [.str l]) ν QD)(hs:∀QD:D->Mh->Prop,QD (.bl true) ν->WP (Aj [.ref n,.str w]) ν QD)
  (ht:∀QD:D->Mh->Prop,QD .non ν'->WP (A2 [.ref n,.tup (.str w::r)]) ν QD) (q:∀o3 o4 o5,WP (Ba (DT [3,4]) rmB xs [t0,t1,some (.ref n),o3,o4,o5,o6]) ν' QS):WP (Ba (DT [3,4]) rmB (.tup [.int k,.str l]::xs) [t0,t1,some (.ref n),o3,o4,o5,o6]) ν QS:=by
 refine DU (KL ?_);wtm_at "a";refine hr _ ?_;wtm_at "a";refine KH rfl hn hf1 ?_;wtm_at "a";refine hs _ ?_;wtm_at "a";refine KH rfl hn hf2 ?_;wtm_at "a";refine ht _ ?_;exact By (q _ _ _)
theorem IY(hr:∀(ν:Mh) (QD:D->Mh->Prop),QD (.tup (.str w::r)) ν->WP (BZ [.str l]) ν QD)(hst:∀QD:D->Mh->Prop,QD (.bl true) (RH μ made bs hs ps)->WP (Aj [.ref μ.length,.str w]) (RH μ made bs hs ps) QD)
  (ht:∀QD:D->Mh->Prop,QD .non (RH μ made' bs' hs' ps')->WP (A2 [.ref μ.length,.tup (.str w::r)]) (RH μ made bs hs ps) QD) (q:∀o3 o4 o5,WP (Ba (DT [3,4]) rmB xs [t0,t1,some (.ref μ.length),o3,o4,o5,o6]) (RH μ made' bs' hs' ps') QS):WP (Ba (DT [3,4]) rmB (.tup [.int k,.str l]::xs) [t0,t1,some (.ref μ.length),o3,o4,o5,o6]) (RH μ made bs hs ps) QS:=
 W9 Hg (by kernel_rfl) (by kernel_rfl) (hr _) hst ht q
theorem OL:∀(todo:List Bx) (done:List D) (k:Nat) (o3 o4 o5:Option D),(∀b∈todo,GoodName b.nm/\Fj b.kd b.sz b.bg/\GoodName b.wr)->done.length+todo.length<=6->
  (∀k o3 o4 o5,WP (Ba (DT [3,4]) rmB (DS k ls) [t0,t1,some (.ref μ.length),o3,o4,o5,o6]) (RH μ (.tup ms) (done++todo.map Bx.toD) [] []) QS)->
  WP (Ba (DT [3,4]) rmB (DS k (todo.map (λb=>D.str (ln (Bx.ws b)))++ls)) [t0,t1,some (.ref μ.length),o3,o4,o5,o6]) (RH μ (.tup ms) done [] []) QS
 |[],done,k,o3,o4,o5,_,_,q=>by
  have:=q k o3 o4 o5;rw[List.map_nil,AAY] at this;exact this
 |b::todo,done,k,o3,o4,o5,h,hl,q=>by
  obtain⟨h1,h2,h3⟩:=h b AAP;rw[AAH] at hl;refine IY (w := "box") (l:=ln (Bx.ws b)) (r:=[.str b.nm,.str b.kd,.int b.sz,.int b.bg,.str b.wr]) (made':=.tup ms) (bs':=done++[b.toD]) (hs':=[]) (ps':=[]) (λν QD z=>UA h1 h2 h3 z) (λQD z=>ZM (by omega) z) (λQD z=>ZD (by omega) z) λo3 o4 o5=>?_;refine OL todo (done++[b.toD]) (k+1) o3 o4 o5 (λq hq=>h q (AAQ _ hq)) (by simp;omega) λk o3 o4 o5=>?_;have:=q k o3 o4 o5;rw[AAW] at this;simpa using this
theorem Ul{r:Rw}:∃w ds,r.toD=.tup (.str w::ds)/\PyData.strOk w=true/\w∉(["makes", "box", "hand"]:List Str):=by
 cases r with
 |put a b=>exact⟨_,_,rfl,by decide +kernel,by decide +kernel⟩
 |get a b=>exact⟨_,_,rfl,by decide +kernel,by decide +kernel⟩
 |letr a b=>exact⟨_,_,rfl,by decide +kernel,by decide +kernel⟩
 | «unless» a b=>exact⟨_,_,rfl,by decide +kernel,by decide +kernel⟩
 |jump a=>exact⟨_,_,rfl,by decide +kernel,by decide +kernel⟩
 |tell a=>exact⟨_,_,rfl,by decide +kernel,by decide +kernel⟩
 |done=>exact⟨_,_,rfl,by decide +kernel,by decide +kernel⟩
theorem Qs{t0 t1 o6:Option D}(hh:0<hs.length):∀(todo:List Rw) (p:List D) (k:Nat) (o3 o4 o5:Option D),(∀r∈todo,Rw.Rd r)->p.length+todo.length<=60->
  (∀k o3 o4 o5,WP (Ba (DT [3,4]) rmB (DS k ls) [t0,t1,some (.ref μ.length),o3,o4,o5,o6]) (RH μ (.tup ms) bs hs (qs++[p++todo.map Rw.toD])) QS)->
  WP (Ba (DT [3,4]) rmB (DS k (todo.map (λr=>D.str (ln (Rw.ws r)))++ls)) [t0,t1,some (.ref μ.length),o3,o4,o5,o6]) (RH μ (.tup ms) bs hs (qs++[p])) QS
 |[],p,k,o3,o4,o5,_,_,q=>by
  have:=q k o3 o4 o5;rw[List.map_nil,AAY] at this;exact this
 |r::todo,p,k,o3,o4,o5,h,hl,q=>by
  obtain⟨w,rs,e,h1,h2⟩:=Ul (r:=r);have hr:=h r AAP;rw[AAH] at hl;refine IY (w:=w) (l:=ln (Rw.ws r)) (r:=rs) (made':=.tup ms) (bs':=bs) (hs':=hs) (ps':=qs++[p++[.tup (.str w::rs)]]) (λν QD z=>Wq hr (by rw[e];exact z)) (λQD z=>ZL (p:=p) h1 h2 hh (by omega) z) (λQD z=>ZC (p:=p) h1 h2 (by omega) z) λo3 o4 o5=>?_;rw[←e];refine Qs hh todo (p++[r.toD]) (k+1) o3 o4 o5 (λq hq=>h q (AAQ _ hq)) (by simp;omega) λk o3 o4 o5=>?_;have:=q k o3 o4 o5;rw[AAW] at this;simpa using this
theorem OK:∀(todo done:List Hd) (k:Nat) (o3 o4 o5:Option D),(∀h∈todo,GoodName h.nm/\0<=h.wi/\h.wi<=400/\h.rs.length<=60/\∀r∈h.rs,Rw.Rd r)->done.length+todo.length<=4->
  (∀o3 o4 o5,QS (.next,[t0,t1,some (.ref μ.length),o3,o4,o5,o6]) (RH μ (.tup ms) bs ((done++todo).map λh=>D.tup [.str h.nm,.int h.wi]) ((done++todo).map λh=>h.rs.map Rw.toD)))->
  WP (Ba (DT [3,4]) rmB (DS k ((DD todo).map λa=>D.str a.2)) [t0,t1,some (.ref μ.length),o3,o4,o5,o6]) (RH μ (.tup ms) bs (done.map λh=>D.tup [.str h.nm,.int h.wi]) (done.map λh=>h.rs.map Rw.toD)) QS
 |[],done,k,o3,o4,o5,_,_,q=>by
  have:=q o3 o4 o5;rw[AAY] at this;exact Gx this
 |h::todo,done,k,o3,o4,o5,hh,hl,q=>by
  obtain⟨h1,h2,h3,h4,h5⟩:=hh h AAP;rw[AAH] at hl;have e1:(DD (h::todo)).map (λa=>D.str a.2)=D.str (ln (Hd.ws h))::(h.rs.map (λr=>D.str (ln (Rw.ws r)))++(DD todo).map λa=>D.str a.2):=by simp[DD,TJ,Ph]
  rw[e1];refine IY (w := "hand") (l:=ln (Hd.ws h)) (r:=[.str h.nm,.int h.wi]) (made':=.tup ms) (bs':=bs) (hs':=(done.map λh=>D.tup [.str h.nm,.int h.wi])++[.tup [.str h.nm,.int h.wi]]) (ps':=(done.map λh=>h.rs.map Rw.toD)++[[]]) (λν QD z=>T9 h1 h2 h3 z) (λQD z=>W2 (by simp;omega) z) (λQD z=>Wy (by simp;omega) (by simp;omega) z) λo3 o4 o5=>?_;refine Qs (by simp) h.rs [] (k+1) o3 o4 o5 h5 (by simp;omega) λk o3 o4 o5=>?_;have ih:=OK todo (done++[h]) k o3 o4 o5 (λq hq=>hh q (AAQ _ hq)) (by simp;omega) (λo3 o4 o5=>by
   have:=q o3 o4 o5;simpa using this)
  rw[AAX,AAX] at ih;exact ih
theorem Wg(h:WP (ra τ) μ λas μ1=>∃ds,as=[.lst ds]/\QL (DS 0 ds) μ1):WP (OZ ra τ) μ QL:=by
 unfold OZ;refine Aa (Am h λas μ1 ⟨ds,e,q⟩=>?_);subst e;exact Aa ⟨ds,μ1,rfl,Bd q⟩
theorem bP:∀(hs:List Hd) (k:Nat),GM (hs.map λh=>D.tup [.str h.nm,.int h.wi]) ((List.range' k hs.length).map λi=>D.ref (n+i))=(hs.zipIdx k).map λa=>D.tup [.tup [.str a.1.nm,.int a.1.wi],.ref (n+a.2)]
 |[],k=>rfl
 |h::hs,k=>by
  rw[AAH,List.range'_succ,AAW,AAW,List.zipIdx_cons,AAW,←bP hs (k+1)];rfl
theorem bw(h:ps[i]?=some p):(RH μ made bs hs ps)[μ.length+4+i]?=some (.lst p):=by
 rw[show μ.length+4+i=μ.length+(i+4) from by omega,L0];simp[h]
noncomputable abbrev hdD(h:Hd):D:=.tup [.str h.nm,.int h.wi]
noncomputable abbrev RM(μ:Mh)(m:Mk):Mh:=RH μ (.tup [.str m.kd,.int m.sz,.int m.bg]) (m.bs.map Bx.toD) (m.hs.map hdD) (m.hs.map λh=>h.rs.map Rw.toD)
theorem Wo(hl:m.hs.length<=100)(q:QD m.toD (RM μ m)):WP (B8 [.ref μ.length]) (RM μ m) QD:=by
 unfold B8;refine Ap rfl ?_;unfold Ds;refine A0 (C6 (Fm (Aa ?_)));refine Af (EO (AT rfl (Lp (Af (EO (AT rfl (QU (Ab ?_))))))));refine Aa ⟨_,_,QG Pg,Aa ⟨_,_,QG Ut,?_⟩⟩;refine⟨m.hs.zipIdx.map λa=>D.tup [hdD a.1,.ref (μ.length+4+a.2)],RM μ m,?_,?_,?_⟩
 ·show (if (HF μ.length (m.hs.map λh=>h.rs.map Rw.toD).length).length=(m.hs.map hdD).length then some (GM (m.hs.map hdD) (HF μ.length (m.hs.map λh=>h.rs.map Rw.toD).length),_) else none)=_;rw[if_pos (by simp[HF]),AAF];unfold HF;rw[List.range_eq_range',bP m.hs 0]
 ·rw[sizeLine_eq];simp;omega
 ·refine Ei (λa:Hd×Nat=>D.tup [hdD a.1,.ref (μ.length+4+a.2)]) (λ_=>true) (λa=>a.1.toD) (λa ha=>KL ⟨rfl,E6 ⟨rfl,rfl,λ_=>?_⟩⟩) ?_
  ·have hg:m.hs[a.2]?=some a.1:=List.mem_zipIdx_iff_getElem?.mp ha;refine BI (AT rfl (Av (Af (Av (Af (AT rfl (Ab ?_)))))));refine QY (bw (by rw[AAV,hg];rfl)) (Ab (IK (by rw[sizeLine_eq];simp) ?_));exact Gy (d:=.str a.1.nm) (ds:=[.int a.1.wi]) (by simp) ⟨rfl,rfl⟩
  ·rw[fil];refine D8 (by rw[sizeLine_eq];simp;omega) (Ax ?_);refine FH (BI (EO (AT rfl (Nw ?_))));refine Av (Af (Av (Af (EO (AT rfl (To (Ab (QY XE ?_))))))));refine Af (Av (Af (AT rfl (Ab (QZ (Ab (IK (by rw[sizeLine_eq];simp) ?_)))))));refine Gy (d:=.str m.kd) (ds:=[.int m.sz,.int m.bg]) (by simp) ⟨_,_,rfl,?_⟩;have e:m.hs.zipIdx.map (λa=>a.1.toD)=m.hs.map Hd.toD:=by
    rw[show (λa:Hd×Nat=>a.1.toD)=Hd.toD ∘ Prod.fst from rfl,←List.map_map,List.zipIdx_map_fst]
   rw[e];exact q
theorem Mq(h:Mk.Rd m)(q:QD m.toD μ):WP (Cn [.str (tx (BW m))]) μ QD:=by
 have hs:=Pc h;have hl:=Km h.ok;have ls:∀l∈BW m,l.length<=300/\HG 10 l:=λl hl=>by
  unfold BW at hl;rw[AAL] at hl;obtain⟨a,ha,rfl⟩:=hl;exact(hs a ha).1
 unfold Cn;refine Fp rfl ?_;unfold HP;refine A0 (CP (wz_not (A5 (Av ?_))));wtm_at "a";refine Aw (a:=.bl true) (μ':=μ) rfl ?_;wtm_at "a";refine Cy (y:=tx (BW m)) (AT rfl ⟨rfl,Af (BV (Ab ?_))⟩);have sp:Hc (.str (tx (BW m))) [.str "\n"] μ=some (.lst ((BW m).map D.str),μ):=by
  obtain⟨d,ν,e,q1,q2⟩:=Nz (μ:=μ) (QD:=λd ν=>d=.lst ((BW m).map D.str)/\ν=μ) (c:=10) (B:=300) (ws:=BW m) (by simp[BW,FX]) (λl hl=>(ls l hl).2) (λl hl=>(ls l hl).1) (by rw[sizeLine_eq];simp[BW];omega) ⟨rfl,rfl⟩;subst q1 q2;unfold tx;rw[Vc];exact e
 refine Aw sp ?_;wtm_at "a";refine Ws ?_;refine Ax (A0 (JE (Wg ?_)));wtm_at "a";refine⟨_,rfl,?_⟩;have e1:(BW m).map D.str=.str (ln (Mk.ws m))::(m.bs.map (λb=>D.str (ln (Bx.ws b)))++(DD m.hs).map λa=>D.str a.2):=by simp[BW,FX,OY,Lh,Function.comp_def]
 rw[e1];refine IY (w := "makes") (l:=ln (Mk.ws m)) (r:=[.str m.kd,.int m.sz,.int m.bg]) (made':=.tup [.str m.kd,.int m.sz,.int m.bg]) (bs':=[]) (hs':=[]) (ps':=[]) (λν QD z=>T8 h.ok.worth z) (λQD z=>Ua z) (λQD z=>UT (by simp) z) λo3 o4 o5=>?_;refine OL m.bs [] 1 o3 o4 o5 (λb hb=>⟨(h.ok.boxes b hb).1,(h.ok.boxes b hb).2,h.wr b hb⟩) (by have:=h.ok.most;simp;omega) λk o3 o4 o5=>?_;refine OK m.hs [] k o3 o4 o5 (λq hq=>⟨(h.ok.hands q hq).1,(h.ok.hands q hq).2.1,(h.ok.hands q hq).2.2.1,(h.ok.hands q hq).2.2.2,h.rows q hq⟩) (by have:=h.ok.mosth;simp;omega) λo3 o4 o5=>?_;rw[List.nil_append,List.nil_append];refine Ax (A0 (CP (A5 (BI (Av (Af (EO (AT rfl (Lp (Ab (ER Pg (BV ?_))))))))))));refine QV (by have:=h.ok.least;show ¬(((m.hs.map hdD).length:Int)<2);simp;omega) (Be (DG (JC (Ax (A0 (C6 ?_))))));refine KH rfl Hg (by kernel_rfl) (Ab (Wo (by have:=h.ok.mosth;omega) ?_));refine Ax (A0 (Cf (Av (Af (AT rfl (Ab (Aw (KR h.ok) ?_)))))));wtm_at "a";exact⟨_,_,_,rfl,rfl,Mk.cl m,q⟩
end
noncomputable def Pl:Nat->D->Prop
 |0,_=>False
 |_+1,.int _=>True
 |_+1,.str x=>PyData.strOk x=true
 |n+1,.tup ds=>ds.length<=1000/\∀d∈ds,Pl n d
 |_,_=>False
theorem Pl.succ:∀{n:Nat} {d:D},Pl n d->Pl (n+1) d
 |n+1,.int _,_=>trivial
 |n+1,.str _,h=>h
 |n+1,.tup ds,h=>⟨h.1,λd hd=>Pl.succ (h.2 d hd)⟩
 |n+1,.non,h=>h.elim
 |n+1,.bl _,h=>h.elim
 |n+1,.ty _,h=>h.elim
 |n+1,.scr _,h=>h.elim
 |n+1,.lst _,h=>h.elim
 |n+1,.ref _,h=>h.elim
theorem Pl.mono(h:Pl n d)(hk:n<=k):Pl k d:=by
 induction hk with
 |refl=>exact h
 |step _ ih=>exact ih.succ
theorem U4:∀{ds:List D},(∀d∈ds,Pz d/\dpt d<=n)->PzL ds/\Nc ds<=n
 |[],_=>⟨by unfold PzL;trivial,by unfold Nc;omega⟩
 |d::ds,h=>by
  have h1:=h d AAP;have h2:=U4 λe he=>h e (AAQ _ he);exact⟨by unfold PzL;exact⟨h1.1,h2.1⟩,by unfold Nc;omega⟩
theorem Pl.pz:∀{n:Nat} {d:D},Pl n d->Pz d/\dpt d<=n
 |n+1,.int _,_=>⟨by unfold Pz;trivial,by unfold dpt;omega⟩
 |n+1,.str _,h=>⟨by unfold Pz;exact h,by unfold dpt;omega⟩
 |n+1,.tup ds,h=>by
  have:=U4 λd hd=>Pl.pz (h.2 d hd);exact⟨by unfold Pz;exact this.1,by unfold dpt;omega⟩
 |n+1,.non,h=>h.elim
 |n+1,.bl _,h=>h.elim
 |n+1,.ty _,h=>h.elim
 |n+1,.scr _,h=>h.elim
 |n+1,.lst _,h=>h.elim
 |n+1,.ref _,h=>h.elim
theorem pl2(ha:Pl n a)(hb:Pl n b):Pl (n+1) (.tup [a,b]):=⟨by simp,λd hd=>by
 simp at hd;rcases hd with rfl|rfl
 ·exact ha
 ·exact hb⟩
theorem pl3(ha:Pl n a)(hb:Pl n b)(hc:Pl n c):Pl (n+1) (.tup [a,b,c]):=⟨by simp,λd hd=>by
 simp at hd;rcases hd with rfl|rfl|rfl
 ·exact ha
 ·exact hb
 ·exact hc⟩
theorem pl5(ha:Pl n a)(hb:Pl n b)(hc:Pl n c)(hd:Pl n d)(he:Pl n e):Pl (n+1) (.tup [a,b,c,d,e]):=⟨by simp,λx hx=>by
 simp at hx;rcases hx with rfl|rfl|rfl|rfl|rfl<;>assumption⟩
theorem plm{α:Type}{n:Nat}{f:α->D}{xs:List α}(hl:xs.length<=1000)(h:∀a∈xs,Pl n (f a)):Pl (n+1) (.tup (xs.map f)):=⟨by rw[AAF];exact hl,λd hd=>by
 rw[AAL] at hd;obtain⟨a,ha,rfl⟩:=hd;exact h a ha⟩
theorem pli:Pl (n+1) (.int i):=trivial
theorem pls(h:PyData.strOk x=true):Pl (n+1) (.str x):=h
theorem Kx:∀(k:Nat) (e:Ex),Ex.Rd k e->Pl (k+1) e.toD
 |0,_,h=>h.elim
 |k+1,.num i,h=>pl2 (pls (by decide +kernel)) pli
 |k+1,.var x,h=>pl2 (pls (by decide +kernel)) (pls h.1.ok)
 |k+1,.neg e,h=>pl2 (pls (by decide +kernel)) (Kx k e h)
 |k+1,.pair w a b,h=>pl3 (pls (by
   have hw:=h.1;unfold BD at hw;simp only[AAI,List.not_mem_nil,or_false] at hw;rcases hw with rfl|rfl|rfl|rfl|rfl|rfl<;>decide +kernel)) (Kx k a h.2.1) (Kx k b h.2.2)
theorem cM{r:Rw}(h:Rw.Rd r):Pl 7 r.toD:=by
 cases r with
 |put bx e=>exact pl3 (pls (by decide +kernel)) (pls h.1.ok) (Kx 5 e h.2)
 |get x bx=>exact pl3 (pls (by decide +kernel)) (pls h.1.ok) (pls h.2.ok)
 |letr x e=>exact pl3 (pls (by decide +kernel)) (pls h.1.ok) (Kx 5 e h.2)
 | «unless» e t=>exact pl3 (pls (by decide +kernel)) (Kx 5 e h.1) pli
 |jump t=>exact pl2 (pls (by decide +kernel)) pli
 |tell e=>exact pl2 (pls (by decide +kernel)) (Kx 5 e h)
 |done=>exact plm (n:=6) (f:=D.str) (xs:=["done"]) (by simp) (λa ha=>pls (by rw[AAK] at ha;subst ha;decide +kernel))
theorem Rb(h:k∈(["safe", "steady", "whole"]:List Str)):PyData.strOk k=true:=by
 simp only[AAI,List.not_mem_nil,or_false] at h;rcases h with rfl|rfl|rfl<;>decide +kernel
theorem VD{m:Mk}(h:Mk.Rd m):Pl 12 m.toD:=by
 refine pl5 (pls (Rb h.ok.worth.1)) pli pli ?_ ?_
 ·exact(plm (n:=9) (by have:=h.ok.most;omega) λb hb=>(pl5 (n:=8) (pls (h.ok.boxes b hb).1.ok) (pls (Rb (h.ok.boxes b hb).2.1)) pli pli (pls (h.wr b hb).ok))).mono (by decide)
 ·exact(plm (n:=9) (by have:=h.ok.mosth;omega) λq hq=>pl3 (n:=8) (pls (h.ok.hands q hq).1.ok) pli (plm (n:=7) (by have:=(h.ok.hands q hq).2.2.2;omega) λr hr=>cM (h.rows q hq r hr))).mono (by decide)
section
variable{μ:Mh}{QD:D->Mh->Prop}
theorem N0:∀(n:Nat) (d:D) (μ:Mh) (QD:D->Mh->Prop),Pl n d->QD (.bl true) μ->WP (CJ n [d]) μ QD
 |0,_,_,_,h,_=>h.elim
 |n+1,.int i,μ,QD,_,q=>by
  unfold CJ;refine Ap rfl ?_;unfold EW;exact⟨(.rt (.bl true),[some (.int i)]),μ,by kernel_rfl,_,_,rfl,q⟩
 |n+1,.str x,μ,QD,_,q=>by
  unfold CJ;refine Ap rfl ?_;unfold EW;exact⟨(.rt (.bl true),[some (.str x)]),μ,by kernel_rfl,_,_,rfl,q⟩
 |n+1,.tup ds,μ,QD,h,q=>by
  unfold CJ;refine Ap rfl ?_;unfold EW;refine A0 (CP (A5 (Av ?_)));wtm_at "a";refine Aw (a:=.bl true) (μ':=μ) rfl ?_;refine Be (G1 (FH (Av (Af (Fm (KK (AT rfl (Mo ⟨?_,?_⟩))))))))
  ·rw[sizeLine_eq];have:=h.1;omega
  ·rw[←List.map_id ds];refine Ei id (λ_=>true) (λ_=>D.bl true) (λa ha=>BN ⟨rfl,E6 ⟨rfl,rfl,λ_=>?_⟩⟩) ?_
   ·exact Av (Af (AT rfl (Ab (N0 n a _ _ (h.2 a ha) ⟨rfl,rfl⟩))))
   ·rw[fil];refine D8 (by rw[AAF,sizeLine_eq];have:=h.1;omega) (Ab (UF (f:=λ_=>true) ?_));rw[show (ds.all λ_=>true)=true from by simp];exact⟨_,_,rfl,q⟩
 |n+1,.non,_,_,h,_=>h.elim
 |n+1,.bl _,_,_,h,_=>h.elim
 |n+1,.ty _,_,_,h,_=>h.elim
 |n+1,.scr _,_,_,h,_=>h.elim
 |n+1,.lst _,_,_,h,_=>h.elim
 |n+1,.ref _,_,_,h,_=>h.elim
end
theorem Nm(hd:d<128):∀{ws:List Str},(∀w∈ws,∀c∈w.cps.toList,c<128)->∀c∈(Str.join ⟨#[d]⟩ ws).cps.toList,c<128
 |[],_,c,hc=>by cases hc
 |[x],h,c,hc=>h x AAP c hc
 |x::y::r,h,c,hc=>by
  rw[Ed] at hc;rcases AAJ.mp hc with z|z
  ·exact h x AAP c z
  ·rcases AAI.mp z with z|z
   ·rw[z];exact hd
   ·exact Nm hd (ws:=y::r) (λw hw=>h w (AAQ _ hw)) c z
theorem dg(h:∀c∈x.cps.toList,c<128):PyData.strOk x=true:=by
 unfold PyData.strOk;rw[Array.all_eq_true_iff_forall_mem];intro c hc;have:=h c (by simpa using hc);simp;omega
noncomputable abbrev txt(m:Mk):D:=.str (tx (BW m))
theorem UO(h:Mk.Rd m):PyData.strOk (tx (BW m))=true:=by
 have hw:∀l∈BW m,∀c∈l.cps.toList,c<128:=by
  have hln:∀{ws:List Str},(∀w∈ws,Gw w)->∀c∈(ln ws).cps.toList,c<128:=λ{ws} hg=>by
   unfold ln;rw[OD];exact Nm (by decide) λw hw=>(hg w hw).as
  have hh:∀hs:List Hd,(∀q∈hs,q∈m.hs)->∀a∈DD hs,∀c∈a.2.cps.toList,c<128:=λhs=>by
   induction hs with
   |nil=>intro _ a ha;cases ha
   |cons q hs ih=>
    intro hq a ha;have hm:=hq q AAP;have ok:=h.ok.hands q hm;rcases AAI.mp ha with rfl|ha
    ·exact hln (Rj ok.1 ok.2.1 ok.2.2.1)
    ·rcases AAJ.mp ha with ha|ha
     ·rw[AAL] at ha;obtain⟨r,hr,rfl⟩:=ha;exact hln (Hf (h.rows q hm r hr))
     ·exact ih (λz hz=>hq z (AAQ _ hz)) a ha
  intro l hl;unfold BW at hl;rw[AAL] at hl;obtain⟨a,ha,rfl⟩:=hl;rcases AAI.mp ha with rfl|ha
  ·exact hln (RF h.ok.worth)
  ·rcases AAJ.mp ha with ha|ha
   ·rw[AAL] at ha;obtain⟨b,hb,rfl⟩:=ha;have ok:=h.ok.boxes b hb;exact hln (Ox ok.1 ok.2 (h.wr b hb))
   ·exact hh m.hs (λ_ z=>z) a ha
 unfold tx;rw[Vc];exact dg (Nm (by decide) hw)
section
variable{μ:Mh}{QD:D->Mh->Prop}{QS:Fl×Sl->Mh->Prop}{m m':Mk}
theorem Tl(h:Mk.Rd m)(q:QD (.bl false) μ):WP (Cj m.toD m.toD) μ QD:=by
 have p:=(VD h).pz;refine T2 p.1 p.1 (by omega) (by omega) λe he=>?_;rw[he.mpr rfl];exact q
theorem Y1(h:Mk.Rd m)(q:QD (.bl true) μ):WP (A3 m.toD m.toD) μ QD:=by
 have p:=(VD h).pz;refine UC p.1 p.1 (by omega) (by omega) λe he=>?_;rw[he.mpr rfl];exact q
theorem Tk(h:Mk.Rd m)(q:QD (.bl false) μ):WP (Cj (txt m) (txt m)) μ QD:=Mm (UO h) (UO h) (by simp) q
def Y0(d:D):Prop:=d=.non∨∃m:Mk,Mk.Rd m/\d=.tup [m.toD,txt m]
noncomputable abbrev Yc:Sl->M (Fl×Sl):=(AQ (As (AF CW (AC (AD 3) AJ)) (AM 6))
  (AQ (sIf (mOr (Fa (AR (AF DC (AC (AD 6) (AC (mC (.ty "str")) AJ))))) (AR (mOp Cj (AD 6) (AD 4)))) (Ar (mC (.bl false))) A1)
  (AQ (As (AF Cn (AC (AD 4) AJ)) (AM 7))
  (AQ (sIf (mOr (Fa (AR (AF DC (AC (AD 7) (AC (mC (.ty "tuple")) AJ))))) (mOr (AR (mOp Cj (AD 7) (AD 3))) (Fa (AR (AF (CJ 12) (AC (AD 7) AJ)))))) (Ar (mC (.bl false))) A1)
  (sIf (GH (AR (mOp (FL true) (AD 1) (mC .non))) (mOr (AR (mOp Cj (AF CW (AC (mOp AU (AD 1) (mC (.int 0))) AJ)) (mOp AU (AD 1) (mC (.int 1))))) (AR (mOp Cj (AF Cn (AC (mOp AU (AD 1) (mC (.int 1))) AJ)) (mOp AU (AD 1) (mC (.int 0))))))) (Ar (mC (.bl false))) A1)))))
theorem Wx(h:Mk.Rd m)(ha:Y0 a)(q:∀o6 o7,QS (.next,[some t,some a,o2,some m.toD,some (txt m),o5,o6,o7,o8]) μ):WP (Yc [some t,some a,o2,some m.toD,some (txt m),o5,o6,o7,o8]) μ QS:=by
 unfold Yc;wtm_at "a";refine IJ h ?_;wtm_at "a";refine Aw (a:=.bl true) (μ':=μ) rfl ?_;wtm_at "a";refine Tk h ?_;wtm_at "a";refine Mq h ?_;wtm_at "a";refine Aw (a:=.bl true) (μ':=μ) rfl ?_;wtm_at "a";refine Tl h ?_;wtm_at "a";refine N0 12 _ _ _ (VD h) ?_;rcases ha with rfl|⟨m',h',rfl⟩
 ·wtm_at "a";exact q _ _
 ·wtm_at "a";refine IJ h' ?_;wtm_at "a";refine Tk h' ?_;wtm_at "a";refine Mq h' ?_;wtm_at "a";refine Tl h' ?_;wtm_at "a";exact q _ _
end
noncomputable def bare:Mk:=⟨"safe",2,0,[],[⟨"a",0,[]⟩,⟨"b",0,[]⟩]⟩
theorem YR:bare.Ok:=by
 have ga:GoodName "a" := ⟨by decide +kernel,by decide +kernel,by unfold B9;decide +kernel⟩;have gb:GoodName "b" := ⟨by decide +kernel,by decide +kernel,by unfold B9;decide +kernel⟩;refine⟨⟨by decide +kernel,by decide,by decide,by decide,by decide⟩,(λb hb=>nomatch hb),by decide,by show ([]:List Str).Nodup;simp,λh hh=>?_,by decide,by decide,by show (["a", "b"]:List Str).Nodup;decide +kernel,(λb hb=>nomatch hb),λi h e r hr=>?_⟩
 ·have hh:h=⟨"a",0,[]⟩∨h=⟨"b",0,[]⟩:=by simpa[bare] using hh
  rcases hh with rfl|rfl
  ·exact⟨ga,by decide,by decide,by decide⟩
  ·exact⟨gb,by decide,by decide,by decide⟩
 ·have hm:=AAU e;have hh:h=⟨"a",0,[]⟩∨h=⟨"b",0,[]⟩:=by simpa[bare] using hm
  rcases hh with rfl|rfl<;>cases hr
theorem YQ:tx (BW bare)=("makes safe 2 0\nhand a 0\nhand b 0" : Str):=by decide +kernel
theorem math:∀ns:List Int,ns.length<=63->∃μ',On [.scr ns] []=some (.bl true,μ'):=by
 intro ns hl;have key:WP (On [.scr ns]) [] λd _=>d=.bl true:=by
  unfold On;refine Fp rfl ?_;unfold Yn;refine A0 (C6 (BV (Ax (A0 (JE (KK (BI (Av (Af (Av (Af (AT rfl (Af (BV (Ab ?_)))))))))))))));obtain⟨c,ec⟩:=Y8 (μ:=[]) ns;refine Aw ec (Ab (D8 (by rw[sizeLine_eq];simp) ?_));refine Tx (AT rfl (Mr (BV ⟨1,rfl,Mr (BV ⟨2,rfl,?_⟩)⟩)));obtain⟨l',el,ll⟩:∃l':List Int,FO (ns.map D.int) (some 1) (some 2)=l'.map D.int/\l'.length<=ns.length:=by
   unfold FO;refine⟨(ns.drop (HT.sIx (ns.map D.int).length 0 (some 1))).take (HT.sIx (ns.map D.int).length (ns.map D.int).length (some 2)-HT.sIx (ns.map D.int).length 0 (some 1)),by rw[List.map_take,List.map_drop],?_⟩;rw[List.length_take,List.length_drop];omega
  refine Aw (a:=.lst (l'.map D.int)) (μ':=[]) (by show some (D.lst (FO (ns.map D.int) (some 1) (some 2)),[])=_;rw[el]) ?_;refine IG (by simp;omega) (Mp ?_);refine Fo (I:=λrest τ ν=>∃(cs:List Int) (a:D) (o2 o3 o4 o5 o6 o7:Option D),rest=cs.map D.int/\Y0 a/\τ=[some (.scr ns),some a,o2,o3,o4,o5,o6,o7,none]) ?_ ?_ ⟨c::l',.non,none,none,none,none,none,none,rfl,.inl rfl,rfl⟩
  ·rintro x xs τ ν ⟨cs,a,o2,o3,o4,o5,o6,o7,er,ha,rfl⟩;cases cs with
   |nil=>cases er
   |cons c cs=>
    obtain⟨rfl,rfl⟩:=List.cons.inj er;obtain⟨b0,m0,hb,ew⟩:=Y6 (μ:=ν) (c:=c);have w1:WellAt (ν++[.lst [.int b0,.int m0,.int 0]]) ν.length:=⟨b0,m0,0,List.getElem?_concat_length,hb⟩;obtain⟨m,ν1,em,ok,_⟩:=UL w1;have h:=Yl ok;refine BN (A0 (C6 (Av (Af (Av (Af (AT rfl (Ab (Aw ew (Ab (Aw em ?_)))))))))));refine Ax (A0 (C6 (Av (Af (AT rfl (Ab (T4 h ?_)))))));refine Ax (A0 (JE (Qa (Af (BV (Ab ⟨2,rfl,by decide,?_⟩))))));refine Fo (I:=λrest τ ν=>∃(p5 p6 p7:Option D),τ=[some (.scr ns),some a,some (.int c),some m.toD,some (txt m),p5,p6,p7,none]) ?_ ?_ ⟨o5,o6,o7,rfl⟩
    ·rintro x xs τ ν ⟨p5,p6,p7,rfl⟩;exact BN (Wx h ha λo6 o7=>By ⟨_,o6,o7,rfl⟩)
    ·rintro τ ν ⟨p5,p6,p7,rfl⟩;refine Ax (C6 (Av (Af (AT rfl (Af (AT rfl (Ab (IK (by rw[sizeLine_eq];simp) ?_))))))));exact By ⟨cs,_,_,_,_,_,_,_,rfl,.inr ⟨m,h,rfl⟩,rfl⟩
  ·rintro τ ν ⟨cs,a,o2,o3,o4,o5,o6,o7,er,ha,rfl⟩;have hb:=Yl YR;refine Ax (A0 (C6 ?_));refine Aw (a:=bare.toD) (μ':=ν) (by kernel_rfl) ?_;refine Ax (FH (Ny (BI (Av (Af (AT rfl (Ab (IJ hb ?_))))))));rw[YQ];refine BV (II (by decide +kernel) (by decide +kernel) (by decide +kernel) (JB (BI (Av (Af (Av (Af (AT rfl (Ab (IJ hb ?_))))))))));refine Ab (Mq hb (AT rfl (Y1 hb ?_)));exact⟨_,_,_,rfl,rfl,by simp[Cl],rfl⟩
 obtain⟨d,μ',e,rfl⟩:=key;exact⟨μ',e⟩
end K5
open PySem PySem.W PyProof.Rows
local macro_rules | `(tactic| wtm_at "c")=>`(tactic| (refine' Mi.dW ?qa ?ql ?qc ?qk;(case qa=>k_is);(case ql=>k_is);(case qc=>k_is);(case qk=>k_is)))
local macro_rules | `(tactic| wtm_at "t")=>`(tactic| (refine' Mi.dY ?qa ?qb ?qc ?qd ?qe ?qf;(case qa=>k_is);(case qb=>k_is);(case qc=>k_is);(case qd=>k_is);(case qe=>k_is)))
local macro_rules | `(tactic| wtm_at "s")=>`(tactic| (refine' Mi.dU ?qa ?qb ?qc ?qd ?qe ?qf ?qg ?qh;(case qa=>k_is);(case qb=>k_is);(case qc=>k_is);(case qd=>k_is);(case qe=>k_is);(case qf=>k_is);(case qg=>k_is);(case qh=>k_is)))
local macro_rules | `(tactic| wtm_at "m")=>`(tactic| (refine' Mi.dO ?qa ?qb ?qc ?qd ?qe ?qf ?qg ?qh ?qi ?qj;(case qa=>k_is);(case qb=>k_is);(case qc=>k_is);(case qd=>k_is);(case qe=>k_is);(case qf=>k_is);(case qg=>k_is);(case qh=>k_is);(case qi=>k_is);(case qj=>k_is)))
local macro_rules | `(tactic| wtm_at "f")=>`(tactic| (refine' Mi.bV ?pl ?pe;(case pl=>k_is);(case pe=>rfl)))
set_option maxRecDepth 100000 in
set_option maxHeartbeats 0 in
theorem PySem.Challenge.cw_strongboxes_k05_makings_written_holds : PySem.Challenge.rw_strongboxes_k05_makings_written.Holds := by
 w_on;o_law;k_head;(case hw=>w_witness2)
 k_fill
 refine Mi.bS (k:=14) (l:=PySem.Challenge.rw_strongboxes_k05_makings_written) rfl rfl (by decide) (λw h Y=>PySem.W.kIn_of Y) ?F
 case F=>
  intro w mg fa h KX G hmg;refine' K5.all_mk K5.math ⟨KX,G,?e0,?e1,?e2,?e3,?e4,?e5,?e6,?e7,?e8,?e9,?e10,?e11,?e12,?e13,?e14,?e15,?e16,?e17,?e18,?e19,?e20,?e21,?e22,?e23,?e24,?e25,?e26,?e27,?e28,?e29,?e30,?e31,?e32,?e33,?e34,?e35,?e36,?e37,?e38,?e39,?e40,?e41,?e42,?e43,?e44,?e45,(PySem.W.mg_none_of KX G ?z0),(PySem.W.mg_none_of KX G ?z1),(PySem.W.mg_none_of KX G ?z2),(PySem.W.mg_none_of KX G ?z3),(PySem.W.mg_none_of KX G ?z4),(PySem.W.mg_none_of KX G ?z5),(PySem.W.mg_none_of KX G ?z6),(PySem.W.mg_none_of KX G ?z7),(PySem.W.mg_none_of KX G ?z8),(PySem.W.mg_none_of KX G ?z9),(PySem.W.mg_none_of KX G ?z10),(PySem.W.mg_none_of KX G ?z11),(PySem.W.mg_none_of KX G ?z12),(PySem.W.mg_none_of KX G ?z13),(PySem.W.mg_none_of KX G ?z14),?gk0,?gk1,?gk2,?gk3,?gk4,?gk5,?gk6,?gk7,?gk8,?gk9,?gk10,?gk11,?gk12,?gk13,?gk14,?gk15,?gk16⟩ hmg
  (case e0=>wtm_at "c")
  (case e1=>wtm_at "c")
  (case e2=>wtm_at "c")
  (case e3=>wtm_at "c")
  (case e4=>wtm_at "c")
  (case e5=>wtm_at "c")
  (case e6=>wtm_at "c")
  (case e7=>wtm_at "c")
  (case e8=>wtm_at "c")
  (case e9=>wtm_at "c")
  (case e10=>wtm_at "c")
  (case e11=>wtm_at "c")
  (case e12=>wtm_at "c")
  (case e13=>wtm_at "c")
  (case e14=>wtm_at "s")
  (case e15=>wtm_at "c")
  (case e16=>wtm_at "c")
  (case e17=>wtm_at "c")
  (case e18=>wtm_at "c")
  (case e19=>wtm_at "c")
  (case e20=>wtm_at "c")
  (case e21=>wtm_at "c")
  (case e22=>wtm_at "c")
  (case e23=>wtm_at "m")
  (case e24=>wtm_at "m")
  (case e25=>wtm_at "m")
  (case e26=>wtm_at "c")
  (case e27=>wtm_at "c")
  (case e28=>wtm_at "c")
  (case e29=>wtm_at "c")
  (case e30=>wtm_at "c")
  (case e31=>wtm_at "c")
  (case e32=>wtm_at "c")
  (case e33=>wtm_at "c")
  (case e34=>wtm_at "c")
  (case e35=>wtm_at "c")
  (case e36=>wtm_at "c")
  (case e37=>wtm_at "c")
  (case e38=>wtm_at "c")
  (case e39=>wtm_at "c")
  (case e40=>wtm_at "c")
  (case e41=>wtm_at "c")
  (case e42=>wtm_at "c")
  (case e43=>wtm_at "c")
  (case e44=>wtm_at "c")
  (case e45=>wtm_at "t";exact⟨by k_is,by k_is,by k_is,by k_is,trivial⟩)
  (case z0=>k_is)
  (case z1=>k_is)
  (case z2=>k_is)
  (case z3=>k_is)
  (case z4=>k_is)
  (case z5=>k_is)
  (case z6=>k_is)
  (case z7=>k_is)
  (case z8=>k_is)
  (case z9=>k_is)
  (case z10=>k_is)
  (case z11=>k_is)
  (case z12=>k_is)
  (case z13=>k_is)
  (case z14=>k_is)
  (case gk0=>refine' Mi.EB KX G ?qa;(case qa=>k_is))
  (case gk1=>refine' Mi.Rl KX G ?qa;(case qa=>k_is))
  (case gk2=>refine' Mi.EB KX G ?qa;(case qa=>k_is))
  (case gk3=>refine' Mi.NV KX G ?qa ?ql ?qh;(case qa=>k_is);(case ql=>wtm_at "f");(case qh=>decide))
  (case gk4=>refine' Mi.EB KX G ?qa;(case qa=>k_is))
  (case gk5=>refine' Mi.EB KX G ?qa;(case qa=>k_is))
  (case gk6=>refine' Mi.Rl KX G ?qa;(case qa=>k_is))
  (case gk7=>refine' Mi.EB KX G ?qa;(case qa=>k_is))
  (case gk8=>refine' Mi.EB KX G ?qa;(case qa=>k_is))
  (case gk9=>refine' Mi.EB KX G ?qa;(case qa=>k_is))
  (case gk10=>refine' Mi.EB KX G ?qa;(case qa=>k_is))
  (case gk11=>refine' Mi.EB KX G ?qa;(case qa=>k_is))
  (case gk12=>refine' Mi.EB KX G ?qa;(case qa=>k_is))
  (case gk13=>refine' Mi.NV KX G ?qa ?ql ?qh;(case qa=>k_is);(case ql=>wtm_at "f");(case qh=>decide))
  (case gk14=>refine' Mi.NV KX G ?qa ?ql ?qh;(case qa=>k_is);(case ql=>wtm_at "f");(case qh=>decide))
  (case gk15=>refine' Mi.RZ KX G ?qa ?ql ?qk ?qs ?qT;(case qa=>k_is);(case ql=>k_is);(case qk=>exact⟨⟨_,_,rfl,rfl⟩,⟨⟨_,_,rfl,rfl⟩,⟨⟨_,_,rfl,rfl⟩,trivial⟩⟩⟩);(case qs=>rfl);(case qT=>refine' ⟨_,_,_,_,_,rfl,rfl,rfl,?qt,?qu,?_⟩;(case qt=>wtm_at "f");(case qu=>decide);refine' ⟨_,_,_,_,_,rfl,rfl,rfl,?qt,?qu,?_⟩;(case qt=>wtm_at "f");(case qu=>decide);refine' ⟨_,_,_,_,_,rfl,rfl,rfl,?qt,?qu,?_⟩;(case qt=>wtm_at "f");(case qu=>decide);rfl))
  (case gk16=>refine' Mi.RZ KX G ?qa ?ql ?qk ?qs ?qT;(case qa=>k_is);(case ql=>k_is);(case qk=>exact⟨⟨_,_,rfl,rfl⟩,⟨⟨_,_,rfl,rfl⟩,⟨⟨_,_,rfl,rfl⟩,⟨⟨_,_,rfl,rfl⟩,⟨⟨_,_,rfl,rfl⟩,⟨⟨_,_,rfl,rfl⟩,⟨⟨_,_,rfl,rfl⟩,trivial⟩⟩⟩⟩⟩⟩⟩);(case qs=>rfl);(case qT=>refine' ⟨_,_,_,_,_,rfl,rfl,rfl,?qt,?qu,?_⟩;(case qt=>wtm_at "f");(case qu=>decide);refine' ⟨_,_,_,_,_,rfl,rfl,rfl,?qt,?qu,?_⟩;(case qt=>wtm_at "f");(case qu=>decide);refine' ⟨_,_,_,_,_,rfl,rfl,rfl,?qt,?qu,?_⟩;(case qt=>wtm_at "f");(case qu=>decide);refine' ⟨_,_,_,_,_,rfl,rfl,rfl,?qt,?qu,?_⟩;(case qt=>wtm_at "f");(case qu=>decide);refine' ⟨_,_,_,_,_,rfl,rfl,rfl,?qt,?qu,?_⟩;(case qt=>wtm_at "f");(case qu=>decide);refine' ⟨_,_,_,_,_,rfl,rfl,rfl,?qt,?qu,?_⟩;(case qt=>wtm_at "f");(case qu=>decide);refine' ⟨_,_,_,_,_,rfl,rfl,rfl,?qt,?qu,?_⟩;(case qt=>wtm_at "f");(case qu=>decide);rfl))
