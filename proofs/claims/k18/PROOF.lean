import PyProof.Rows.All
import Wide.All
import OpenK.AllK
import Wide.FinOn
import Lean
import PyProof.EqAt
import PyProof.EqKinds
import PyProof.TupleCall
import PyProof.ZipIter
import PyProof.ListNew
import PyProof.TupleIter
import PyProof.WalksMore
import PyProof.AttrMissHeap
import PyProof.NeKinds
import PyProof.EnumStmt
import PyProof.Rows.ZipGen
import PyProof.EnumFor
import PyProof.ConsumeWalk
import PyProof.StrWalks
import PyProof.FString5
import PyProof.TupleKey
import PyProof.DictRoadsH
import PyProof.Rows.TupTab
import PyProof.ReprStr
import PyProof.StrLawsRepr
import PyProof.ListMulRoad
import PyProof.StrOps2
import PyProof.MeetsDict
import KE.KRevIter
import PyProof.Rows.SortStr
import PySem.Challenge.RW_scoreflow_k18_counts_shared_out
set_option compiler.extract_closed false
set_option Elab.async false
set_option linter.all false
set_option maxRecDepth 100000
section
open Lean
def ndS (k:Name)(a:Array Syntax):Syntax:=.node .none k a
def wdC (c:Char):Bool:=c.isAlphanum||c=='_'||c=='\''||c=='.'||c=='!'||c=='?'||c.toNat>0x370&&c.toNat<0x2000||c.toNat>=0x2080&&c.toNat<=0x2089
def wdS (l:List Char):String×List Char:=(String.ofList (l.takeWhile wdC),l.dropWhile wdC)
mutual
def atS:Nat->List Char->Option (Syntax×List Char)
|0,_=>none
|n+1,'('::l=>
 let (w,r):=wdS l
 match r with
 |':'::'='::r=>match apS n r with
  |some (e,')'::r)=>some (ndS ``Parser.Term.namedArgument #[mkAtom "(",mkIdent w.toName,mkAtom ":=",e,mkAtom ")"],r)
  |_=>none
 |_=>match apS n l with
  |some (e,')'::r)=>some (e,r)
  |_=>none
|n+1,'⟨'::l=>match csS n l #[] with
 |some (a,r)=>some (ndS ``Parser.Term.anonymousCtor #[mkAtom "⟨",ndS `null a,mkAtom "⟩"],r)
 |none=>none
|_+1,'?'::'_'::l=>some (ndS ``Parser.Term.syntheticHole #[mkAtom "?",mkAtom "_"],l)
|_+1,'?'::l=>let (w,r):=wdS l;some (ndS ``Parser.Term.syntheticHole #[mkAtom "?",mkIdent w.toName],r)
|_+1,'.'::l=>let (w,r):=wdS l;some (ndS ``Parser.Term.dotIdent #[mkAtom ".",mkIdent w.toName],r)
|_+1,l=>
 let (w,r):=wdS l
 if w=="" then none else if w=="_" then some (ndS ``Parser.Term.hole #[mkAtom "_"],r) else if (w.toList.headD 'a').isDigit then some (Syntax.mkNumLit w,r) else some (mkIdent w.toName,r)
def apS:Nat->List Char->Option (Syntax×List Char)
|0,_=>none
|n+1,l=>match atS n l with
 |none=>none
 |some (f,r)=>match agS n r #[] with
  |some (#[],r)=>some (f,r)
  |some (a,r)=>some (ndS ``Parser.Term.app #[f,ndS `null a],r)
  |none=>none
def agS:Nat->List Char->Array Syntax->Option (Array Syntax×List Char)
|0,_,_=>none
|n+1,' '::l,a=>match atS n l with
 |some (e,r)=>agS n r (a.push e)
 |none=>none
|_,r,a=>some (a,r)
def csS:Nat->List Char->Array Syntax->Option (Array Syntax×List Char)
|0,_,_=>none
|n+1,l,a=>match apS n l with
 |some (e,','::r)=>csS n r ((a.push e).push (mkAtom ","))
 |some (e,'⟩'::r)=>some (a.push e,r)
 |_=>none
end
def tbS:Array String:=#["List Str","W.Frag","hr.mono ?B",".inl rfl","List yC","World","Program","List D","Inv X pins σ H s","pq 0 rfl","yQ rs",".ref a","False","model X.prog X.w","Yh.refl _",".ref C","model prog w","yg _","Shared","yJ rs","Value","List V","Zs mg","false","yD rs","h F σ H S","pq 1 rfl","z.elim","pq 2 rfl","Y7 row.length","List Es","List.Perm.refl _","List Expr","List Value","L2.St","L2.KOf KX",".lst xs","pq 4 rfl","s.toks","Around","qj st","t.hs.map erS","Pur.refl fh",".raw ?Bh","Gl X x","List Key","List κ",".ref f","Room k X.A",".none","zj rs","yb _ hx","Q .non H'","List Addr","knG rs row","yv _ e","ks.zip xs",".raw ?AB","List Stmt","I.tok _","List α","List K2","List Hs","Zz rs","y9 ?_","PySem.W.mg_none_of KX G ?_","HOk P w H h","YW X.K gs","ZP rs row k","YW X.K ds","rs.take i","pq 3 rfl",".ref z","g i j","yb _ yh","z9 cs","Sat K B Γ Ω F σ H","P3 X Γ b (.int j)","X.comp sc N c","qo rs st cs","P3 X Γ a ?Ca","Option Int",".frz o u","ClsG K C_Grammar","ClsS K C_Sums",".tup xs","pq 6 rfl",".lst ds","yT hs","Scope","yo st","SumG rs row M b s","TW rs row",".ref t.a","FnScope N ps ?BS","gD C_Grammar st rs",".inl z","zJ ?AJ ?AA rs","h1 F1 σ H1 S1","My.den_pos' q","model P w","L.map qv",".ref b","QR P w",".ref x",".ref l","yT ws","p1.fh",".inl q","ParOk rs st row M b s","absurd ?tZ yV","EP X pins σ Q",".lst ?AO","ZW Ω F H","My.den_pos' p",".lst ?BQ","I.ok.hd hc","yb _ hq",".dK kvs","String",".ref p","trivial",".inr rfl","jw N ds","pq 5 rfl","zW yr","sh (kf ?Af ?D h)","cx0 P w K mg base N q st f cdv A outer s H E","k _ _ ?A3 e","List (Option D)","ju (qY ?Af ?D b)","K w.params","yc yB yr","I.hok.fresh ?AH",".tup ds","List ?K","X.N.Nodup","ns.map V.int","Sub.set rfl","S.pur p","yq _ yh","Yd row","A.deeper (envOfC q ?BS s.heap.objs.size f cdv)","P3 X Γ a ?BP","p1.trans p2","Yr ?A9 yB rfl","yc ha yr he","Array Value","wM n W B'","Cls X.K C","List Int","IsL.nil",".dT kvs","yO _ rfl","List Env","yv _ q","isI i2","Sz n q","some v","Params",".int i","YV y u","I.bare","vk ps",".str x","ha pos pins s σ H _ I h","t.s.L.take k","Rat.divInt t b","CompOk SX sc XN N nt caps","eval e X.env","e1.trans e2","P3 X Γ e d","P3 X Γ a d","f1.trans f2",".builtin id","jt ?AA","g.pos r hr","zF hs rs L",".ins C dx fs","PE X a ta","Yi.mp S.nd","bs.map Yd","L2.start N vs","FuncData","s1.toks","pqc 2 rfl","yb _ z","some e","some d","kS ?zR","ClsP K C_Parts",".inr z","yT xs","kh rs","yT ?AJ","X.comp sc N ?Pa","gS C_Grammar st rs row sa sb sc ?Ga","ZY t x y rest i j k","W3 X B rest Γ' Ω' E","ha pins s σ H _ I h","GPar M b hs row L br ch","he pins s σ H _ I h","some ?Al","sl.mono p1.ff","⟨rfl,?E,?E,?E,rfl,?E⟩","Yr ?B9 yB rfl","s.heap.objs.size","Loc X.env.scope x","⟨_,rfl⟩","KJ nt caps Γ","E.to X.K B F","hs.map erS",".bool true","⟨rfl,rfl⟩","rs.take j","True.intro","⟨_,Qg,?_⟩","List Nat","ps.zip us",".lst ?Bi","pK ks k","OsState","yi.mp hr'","top 47","top 42","tb n f","yb _ ?BC","JM ?CL ?Di ?_","I1.fpOk ?AH ?Op","⟨_,?CT,rfl,rfl⟩","Yr ?AQ yB rfl","wBm hs row kn b i j kw","Z0 X.prog X.w l xs",".seq its.toArray n","bs.getD i false",".Subscript a b pos",".Name x pos","IsL X.K H ds xs","My.G p.den q.den","WS X rest ?DO","yb _ ?De",".inl ?EK","qo rs st cs r","P3 X Γ b d'","List.range n","oDk X.K ks ds","List.range q","i1.mono f2","zt rs hs L","sbh ?BH rs","atD kvs ks","Cls X.K Cc","⟨_,e⟩","upd H a o","start N vs","sh (f' r)","PE X b tb",".raw (.ref c)","PE X e te","KV kvs vs","rs.take k","yi.mp hi","List ?Aj","pqc 1 rfl",".bl true","List Hb","List ?A0",".ref fa",".inl yX","Sz m p","K.In h","I.free","YV v u",".ref it","yF _ z","t.s.kw","pq 7 rfl","yi.mp hp","c.b1.extBut s1.extBut D.l1z","FnOk X.prog X.w X.K X.mg X.base CX k f fd ps sp","envOfC qual scope s.heap.objs.size f cd","c.a1.extBut s1.extBut D.i1z","OpR X ?LQ r","f1.trans (f2.trans f3)","s1.heap.objs.size","SeqAt.EqAt.same _","chD t.s.L t.s.ch","Q9 hs row kn i j",".frz o ?Bu",".ref s.heap.objs.size","V3 X B e Γ Ω R","Array DictEntry","Array (Option Value)","Pur.lay S1.fh hq","E.then X B rest","woS hs row kn i j x","Vis X.env.scope x","IsL X.K H es ys","zL ?AJ rs","QU L ch e i j","IsL.mono e e3","sbh f' ?B8","List.range k","wz X pins H b","IsL K F ds xs","X8 P w K mg base","pA ks xs k v","vc X.K fd ps ds","eval b X.env","fq xs lo hi","Option Expr","XU P w K mg base","kp b o hx e","i _ _ _ hq","hb x hx hh","h1.trans z","Option Addr","Yt K mg x st ps","UG P w K mg base C_Grammar","S'.toPur rfl","uf CX X E","ks.map KN","fs.zip xs","fh.seq s1","jC ?Af ?D","qc dvs ds",".Name x p",".dk ks ds","Yi.mp nd","KnD M kn","bs.zip ns",".bl false","grp h g","Yh H H'","Yh F F'","⟨st,rs,rfl,rfl⟩","yb _ hy","2000011","tb m f","sh ?H0","isI i1","I.cell","pqc 0 rfl","1650001","yc ?AS yr","pq 8 rfl","yJ t.rs","yD t.rs","Y5 y6 rfl","byE t.s.L t.s.ch ?Af ?D h","PySem.W.kHook Law.KP Law.KA Law.KE","⟨F2,?IO,ix.mono e1⟩","ZY t x y rest i j ?vV","ZY ?O4 x y rest i j ?vV","A.deeper (envOfC x ?BS s.heap.objs.size f cdv)","ZipApart z TI TO i1 i2 l1 l2","PassesOwn ?AD X.A X.env X.xe","List.range bs.length",".BinOp a .Add b pos","tupleKind ?Bf","P3 X Γ a ?Ce","Option.some.inj h1",".Subscript o i tpos",".Subscript o i pos","sbh f ?GW","⟨_,_,rfl,rfl⟩","Rat.divInt q.num p.den","Rat.divInt p.num q.den","omG P w K C_Sums","Γ.set i ?D2","xB P w K mg base","omG P w K Cs t","TP X pins σ Q","PL3 X Γ es ds","List.range ?vV","upd H a ?BK","V6 X.K H d ds","Pur.lay e2 hT","P3 X Γ ?Do d","Nat.le_succ _",".seq vs.toArray","oDt X.K kt ds","W9 X.prog X.w","PT3 X Γ c k","PT3 X Γ a k","List.range t","GOk hs ws rs","yn.mpr ⟨p,hp,rfl⟩","Y7 t.row.length",".Name y py","S2.own p ?Gu","Wu P w K mg base","Sat.entry fh il",".inr ?D5","uF kvs k v","QM X.K C f","Is K F d v",".Name x np",".raw (.ref lo)","My.G b ?yA","Wv P w K mg base C_Grammar","ns.map D.int","S.od q ?Bt","⟨o,e⟩","rs.take n","m.sm x hx","SqP Q s p","tup (QO ?Gz)","kwG rs row","PT X a tA","rel.val k","rs.drop k","wM2 L ss","QO (yc yB ?C8)","S1.pur p2","yi.mp hh","Sem Bool","S.back p","S.fr b q","hr.mono ?A","uc L Ω","h2.symm","XcK K C","YW K ds","L.Nodup","I.freeC","yi.mp hd","qo rs h0 cs","yq _ hp","hg p hp",".ref t.hd","yc ?A9 ?C8","row.length","yc ?AQ ?Pb","qo rs st (cs.take i) r","bE t.rs t.st t.row","oDt K (knK t.kn) (knV t.kn)","Builtin.Tuple.tupleExact _","starEach es X.env","kg L hs row kn bd tot i j","zQ P w K C_Parts C_Sums","v8 s.heap z TI TO f0 f1","uD r1 r2 h1 h2 hk hn ih","cx0 P w K mg base N x st f cdv A outer s H E","s.heap.push W.emptyDict","Sat K B Γ Ω' F' σ H'","⟨.bl _,H,I,rfl,?_⟩","Sat X.K B Γ Ω F σ H","⟨rfl,rfl,rfl,rfl⟩","⟨.bl _,H,I,rfl,q⟩","yc ?A9 (yc ?AQ yr)","tupleKind_room_in1 hu","IV3 X B tg e Γ Ω RL","I.mod.glob.keeps I.bk","ho pins s σ H _ I h","hl pins s σ H _ I h","chS t.s.L t.s.ch o h","Yc (yu e) I.ok.above",".Slice lo hi none p2","yj ⟨_,rfl,yj h⟩","rs.flatMap (Jd f S)","e2 _ _ (e1 _ _ hl)",".inl ⟨rfl,_,SqL.of ha⟩","Inv X pins σ H' s'","V3 X B ?yP Γ Ω R","P3 X Γ b ?Ca",".Attribute e f pos","σ.set i ?CY","eC s.heap d es ep","EInv M n k L br a","cu P w K mg base C_Sums","yn.mpr ⟨q,hq,e⟩","YZ K Cc m q st ps","nC P w K mg base","j4 L es i j b pr","S.pur ?Gj","Nat.mod_lt _ ?B","C3 X Γ a op b k","Rat.divInt n ns.sum","ForInStep.yield r","EsOk M n L br es","omG P w K Cs t'","I3 X Γ tg iter ds","LVL K Ω ds ds'",".tup (k.map kV)","v7 k h i j ?Fd","SqT X.K H a xs","SqL X.K H a xs","Nat.succ.inj e",".inl (yy.mp z)","yF _ (yF _ (Vx hb e))","⟨0,0,0,0⟩","v7 kn h i j t","i1.mono p2.ff","lU P w K mg base","binaryOp .Add","Yr ?AS yB rfl","SopQ Q ps t b","P3 X Γ a ?CA","Option Shared","I.ok.bs b o e","wpAny_onRaise ?_","My.den_pos' _","ss.map V.str","neC b o e hx","kf ?Af ?D o","chS L ch h o","aV P w K mg base C_Grammar","xZ nt caps σ","hz i gs Ω' j","S1.fh.seq s1","PT3 X Γ e k","List Keyword",".List es pos",".inr (.inl w)","Sl K F Γ σ","tOp r ta tb","ns.getD k 0","g.body r hr","b.map D.str","Pur.refl e2","cx P w K mg base C_Grammar C_Sums","S.f0.trans w","pu.trans p2","K.In s.heap","EN om C t ds","KT H kvs xs","sh (f' k')","Wz I.hok eb","h pins s I",".fields fs","JA kn h i j","atKey xs k","S.fh _ _ q","ks.map kV","q H' F' p","ps.map Y4","ds.length","dd.typeIs","Xf kw k v","V9 f v fs","PE X l tl","lT P w K mg base","yD t.s.br","il.mono e","hs.take i","L.idxOf h","Ye.mp nd2","xl.mp hr","rawInt T","qc xs us","qc vs us","nng i hi","X.wish E","Option V","L.take n","KnD D kn","bc P w K mg base","S.addSub","Ym (yu e)","KO Ω F'","Yj.mp hp","ns.getD 3 0","i1.mono fh","W.fnOf x qual (Ju st) ?Ae ?BS .none kV doc pm an cdv ct","W.fnOf x x (Ju st) ?Ae ?BS .none kV doc pm an cdv ct","nv PySem.F.plainAttrs_list PySem.F.slot_list_append PySem.F.type_list_append Kk a b","Yr (JL (d:=jS r) (zd ?FW yZ.c yZ.n_known_rules rfl) ?AQ ?_) yB rfl","EInv M t.s.row.length k t.s.L t.s.br (eaT t)","zd ?A9 yP.c yP.n_kept_heads rfl","Ym (Yc (yu e) (I.ok.cab x c hfn hc))","hbody f cdv A outer s H vs Q E hr h","bs.foldl ?OC c","zl (i:=0) qV rfl (yy.mpr rfl) Z8","xi CX P w K mg base N qual scope f cd A outer s H E","iW P w K mg base C_Grammar C_Sums C_Parts",".BinOp a op b pos","W.instObj C s.heap.objs.size","ZipL s.heap TI i1 i2 t1 t2 xs ys k","PySem.F.args_dict_get_3 _ _ _","sl.mono (p1.ff.trans p2.ff)","body f cdv A outer s H E hr","iJ P w K mg base C_Grammar","s1.extBut _ _ c1 q","P3 X Γ o (.obj Cc fs gs)","sliceBounds lo hi none n","hb pins s1 σ H1 Q I1 q1","⟨σ',H',I.unwish,q⟩","⟨F2,?IO,?_⟩","xR ht rfl rfl hr ?AH","f (.int i t) (.int j u)","QI t.s.L t.s.ch ?Af ?D t.kn","iD P w K mg base C_Grammar","h1 F1 σ H1 S1 pins s1 I1","hb pins s1 σ H1 _ I1 q1","pyNext ?EP","vn hs row kn br i j kw","Is.lstI ?EK (il.mono w)","I.base.keep b o e n hb hx","hI P w K mg base C_Sums","h B Γ F σ H S xs il","ObjM s.heap x dx C mA","HT.sIx xs.length 0 lo","I.base.free b o e n hx","OpR X ?Lf r","nn _ (I.freeC x c q)","hi pins s σ H _ I h","Qj (jQ ?B) (jQ ?B)",".lst (ss'.map V.str)",".inr ⟨o,e _ _ h⟩","ZipApart z TI TO i1 i2 t1 t2","HOk X.prog X.w H' h'","Calls.spliced_nil ?_","⟨q1,nn _ q2,q3⟩","h3 F3 (g1.trans e3)","assignEach es X.env","P3 X Γ b (.lst es)","IsL.cons i1 IsL.nil","Heap.SameBut d h h'","⟨x,h1,?Gn⟩","tb L.length F","sGs Cg st rs row c","⟨u,h1,h2.mono w⟩","IsL.cons iv IsL.nil","⟨mc,nsK a1,b1⟩","Pur.layOwn S.fh hl","JE names cells acc","ForInStep.yield ok","⟨pg,hd,po,sa⟩",".ref s2.heap.objs.size","h F σ H S pins s I","IsL.cons (ZD F2) i2","sh (chF L ss r j)","KH (EK ?CO k) k i",".Tuple es x1 tpos","V3 X B ?yO Γ Ω R","p2.ff.trans p3.ff","Loc X.env.scope y","⟨h,g,d,t,os⟩","xX K B Ω Γ Γ'","gx P w K mg base","W.plainGet_of hg","Bu P w K mg base",".Tuple es x1 pos","h.Ns mainGlobals mg","Y7 t.s.row.length","iL P w K mg base","An P w K mg base","⟨p,rfl,rfl⟩","xb hi hv hd hcd","setItem ov iv v","ho F σ H S","PySem.call f vs","PTs ?BG ifs (tc c)","congrArg D.tup FN","h1.symm.trans e","List (List Key)","EnG M e n m L a",".inr (.inl ?Ft)",".bl (bs.any id)",".bl (bs.all id)","Nat.lt_succ_self _","PI X tg iter wi","⟨_,hz,rfl⟩","zi X.K C fs ds","qQ P w H h a o","ln K Ω Γ Γ'","cb rs st row r","backTo pos ?H4","bM s1 s2 l1 l2","W.instObj C dx","UI rs st row k","P3 X Γ ?JI d3","K9 s.heap ks a","CtP rs st cs U","Array GenState",".int ys.length",".inl (e _ _ h)","iO P w K mg base C_Parts","PE ?BG elt (te c)","gT P w K mg base","zi X.K Cc fs gs","UA s2 s1 l2 l1","False.elim hq'","st (ok _ _ q)","g.br.sz r hrm","Sz.mono Xw ?A","ir P w K mg base C_Sums","⟨_,rfl,?A,?A,?_⟩","UA s1 s2 l1 l2","pu.ff.trans w","compareOp .In","QR X.prog X.w","L3.bF KX G ?a","IsTup.new _ _","IsL K H ds xs","I.freeC x c e","False.elim hq","zi K C fs ds","wQ es p b pr","sl.mono p.ff","relabel sc X.env","S2.kp b o hb e","Pur F H F' H'","PF3 X Γ e ds","JM ?Di ?CL ?_","DP K F kvs xs","yc hb yr hs2","compareOp op","S.fh.free hl","False.elim h","gP P w K mg base C_Grammar C_Sums C_Parts","⟨h0,lr',rfl,rfl⟩","PG ?BG tg (g c)","S2.f0.trans g1","Gk k j hk hj","ur ds es ?A","pu.fh _ _ q","p1.trans pf","p1.trans p3","p.fh.seq s1","nn _ I.free","bs.map V.bl","binaryOp op","absurd y hb","YV (kV k) u","Wd g.par.rl","SP X pins D","OkN D n e q","JA kn x i j","I7.unpinned","I.hok b u e","KI t.rs t.st t.row r","S2.sl.mono g1","yT t.s.hs","gE P w K mg base","xs.map ?C","ss.map ?qD","pyNext ?BA","pu.new b q","l.filter p","iI H a y o","i2.mono f3","S.fh _ _ e","F.binds hb","cT P w K mg base C_Sums C_Parts","il.mono e5","Xw.mono ?A","a.prs p hp","List.mem_reverse.mp (yx hp)","gD C_Grammar h0 rs","S2.freeB z","knG t.rs t.row","t.hs.map hsV","gJ P w K mg base","hs3.map erS","yc ?Ab (yc ?C0 yr)","absurd hk ?B","gC P w K mg base","vj rs st row","FI rs st row","hs'.map erS","yc ?AQ ?FY","⟨ok.mod,ok.kind,ok.glob,ok.blt,ok.above,ok.inj,ok.has,ok.cab,ok.hd,ok.frames,ok.stk,ok.exf,ok.bs,ok.bsz,ok.noex,ok.exfs,ok.funs,ok.frf⟩","qA F.slot_dict_keyiterator_next hit.typeIs F.entry_dict_keyiterator_next ?_ (F.args_dict_keyiterator_next_1 _)","qH (QO (yc (Jw py ?A9 ?AS ?_) (yc (Jw py ?AQ ?AS ?_) yr))) ?_","q l' _ _ F' ?NB (pu.hh.free hl) (pu.fh.free hl) yX j1","W.topRun treeTable pr w 11 (some (.ref 6)) ?jL (s0 w os) (W.topStub pr)","⟨l,xs,d,ds,rfl,.inl ?FD,j1.mono fh,?J5,hk,q⟩","⟨l,xs,d,ds,rfl,.inr (jE fh s1),j1.mono fh,?J5,hk,q⟩","yc ?A9 (yc ?Cz (yc ?EF (yc (pqc 3 rfl) yr)))","OkM X.prog X.w X.K X.mg X.base CX0 k Cc m ps (spP X.K 1 C)","W.fnOf m q (Ju st) ?Ae ?BS .none kV doc pm an cdv ct","OkM X.prog X.w X.K X.mg X.base CX0 k Cc m ps (spS X.K n om C)","OkF X.prog X.w X.K X.mg X.base CX0 k x ps (spP X.K n C)","wpAny ?AD X.A (pyIter v) ?PD X.xe s1","W.kia_one W.kitx_list I.kIn ⟨_,h1,rfl⟩ e ?zH h","W.fnOf name qual params body scope dV kV doc pm an cdv ct","xi CX0 P w K mg base N x ?BS f cdv A outer s H E","xi CX0 P w K mg base N q ?BS f cdv A outer s H E","List.range (min us.toArray.size vs.toArray.size)","wpAny_specialOf hT F.slot_tuple_hash.lookup ?_","s3.extBut _ _ D.TOz.symm ?Nm","xi CX P w K mg base N qual scope f cdv A outer s H E","wpAny_Call_Name_kw (Vv I hg hm hv ?_ hn hdb)","⟨l,bs,rfl,?FD,k _ _ _ ?Ag (Wr F)⟩","mK S2 ?Dz i2 m ⟨_,rfl,Ω2,F2,S2,?Cn,q⟩","⟨a,kb,hd,sa,sb,sc,st,rs,row,kw,M,b,s⟩","beq_eq_false_iff_ne.mpr (Ne.symm (Ym hb))","⟨d,d',?J5,i2.mono fh,hk,hd,q⟩","yc ?CL (yc ?EF (yc ?Cz yr))","items.toList.drop (sIx items.size 0 lo)","⟨a,dx,_,rfl,p1.fh _ _ h1,ZC hm,?_⟩","wpAny_Call_Name_kw (b8 I hg hm ?_ hdb)","ho pins s2 σ H2 x y v u _ I2 r1 r2 q2","WW (pl:=pl) ho c hM F hr hb .nil kM ht","⟨a.el.up ?A,a.kw,yU a.kl ?A,a.fd⟩","wpAny M A (storeName X.env x u) Q E s","vH s.heap z TI TO i1 i2 l1 l2 xs ys k","ho pins s2 σ H2 x y v u Q I2 rx ry q","wpAny ?AD X.A (eval ?Do X.env) Q E s","⟨a,dx',xs,rfl,yX,g7,g8.mono w⟩","wpAny_notOrdered_dict hm.typeIs ?_","s.heap.IsKeyIter it d i es.size ep","wBm t.hs t.row t.kn body i j t.kw","hc pins s1 σ H1 vs us Q I1 r1 q1","SeqAt.RcAt A s ?AB ?Be (ZV ds es)","vn t.hs t.row t.kn t.br i j t.kw","codeAny_builtin ZK.entry_loop ?_","v8 s.heap z TI TO ?Ir f1","i1.mono (f2.trans (f3.trans e5))","s.heap.IsSliceOf sl vl vu .none","mD X sc N tg elt ifs ?DN ds pre","letOwnedTupleGo tg ?EP u","g3 b u (Yo e1 ha') (sm b u e1)","YR (s:=s) hz rfl (x:=.bool false) rfl ?_","Qb (x.above y c (PySem.mem_of_lookup h))","pu.trans (Pur.layOwn pu.fh hl)","P3 X Γ a (.lst (bs.map D.bl))","I1.fpOk hb' (I1.hok.fresh hb')","plainId_quiet ZK.plain_loop _","wpAny_dictEntries hod hdd ?_","P3 X Γ ?uH (.int ds.length)","zO (qI (KQ (zy z.len rfl ?AQ) yB)) ?_ ?_","s2.extBut _ _ c3 (s1.extBut _ _ c1 e)","Turn X.prog X.w X.K tg J fp it tn","s.heap.IsTuple a us.toArray","hb wh pins s1 σ H1 Q I1 q1","YR (s:=s) hz rfl (x:=.ref TI) rfl ?_","Env0 P w K mg base A outer s H","IsL.cons (iv.mono e6) IsL.nil","List.Perm.append_right _ Yu","⟨dd0.typeIs,Ws dd0,?_⟩","⟨.int ?BB,H,?Ax,?DM,q⟩","wpAny_dictEpoch hod hdd ?_","some (.Attribute o f pos')","SeqAt.EqAt.str_str _ _ _ _","Inv ?Iv pins σ H s",".inr ⟨o,keep _ h1 rfl⟩","wpAny_seqItems (s:=s) c.pr rfl ?_","wBm t.hs t.row t.kn ?zE m j","SeqAt.EqAt.int_int _ _ _ _","S2.back' g1 g2 g3 g4 g5 g6","PPar M b hs row L br ch kn","wBm ?AJ row ?As bd i j kw","uu (Nat.le_max_right m n)","h2 F2 σ H2 S2 pins s2 I2","f'.trans (p2.ff.trans f5)","Obj.data_mapDictKeys hd _","Bool.and_eq_true_iff.mp e","⟨m',hm,σ3,H3,I3,w3⟩","z.sameBut hs (cne y c e)","kg L hs row kn b tot i j","il.mono (pu.ff.trans e2)","s2.extBut _ _ D.i1z.symm z1","EInv M row.length k L br a","Au P w K mg base C_Grammar","⟨oc,od,.func ?J7,osl⟩","woS t.hs t.row t.kn i m x","uu (Nat.le_max_left m n)","k v H' F' (p.trans p') i","hi pins s1 σ H1 _ I1 q1","h pos pins s σ H _ I hq","fin its r' hz h' c' kp e","SeqAt.EqAt.bool_bool _ _","S'.slots (S1.sl.mono f')","⟨_,Qg,sC body hr h⟩","⟨.bl b,H,?Ax,rfl,q⟩","⟨.bl _,H,?Ax,rfl,q⟩","yc ha (yc hb yr he2) he","wpAny_fieldsOf ho hd ?_","V8 (fs.lookup f) (mA f)","⟨a,b',c,gd,row,hs,br,L,ch,kn,kw⟩","JM ?DJ (Yr ?Ab yB rfl) ?_","spN K n om C0 C vs H Q E","⟨v,H',I',r,i _ _ q⟩","some (assign ?GH X.env)","fr b o a1 a2 a3 a4 a5 e","Jz P w K t.c (kwV t.kw)","s1.extBut _ _ D.TOz ho","ZO L hs row kn i j tot","Yi.mpr ⟨nin,S1.nd⟩","zI (Qm ?Bq ?Bb) ?_ ?_","wpAny_attempt (YA ?_)","ka ?AO (rs.map f)","⟨target,iter,ifs,0⟩","BM P w K mg base C_Sums","f1.trans (f2.trans g1)","mG nt caps wi g tc te","bP (S.hard hd p) hs i","OkD.mono hD sW (YC _)","wpAny ?AG A ?Jb Q E s","vG K mg x Cc q st ps","s2.extBut _ _ c3 ?JP","hv pins s σ H _ I h","hc pins s σ H _ I h","ha pins s σ H Q I h","h pins s σ H _ I hw","bj ?AA st row.length","assignEach tgs X.env","I1.kept (t':=?Cy) kp","Fun K x qual st f fd","yU (U5 xs lo hi) hz","rh P w K mg base C_Grammar","JA kn st 0 row.length","zipApart_new lt1 lt2","q H2 F2 (p.trans p2)","hd Γ Ω j F2 σ H S","IsPair s.heap TO a b","vG K mg x C q st ps","q _ _ _ ?F9 (lK F')","q _ H' F' p (Wr F')","of_decide_eq_true h","lR uH (pv 0) Vy ?yV","entryOfKey (W9 P w)","W3 X B sts Γ Ω' E","Pur.layOwn S1.fh hD","P3 X Γ a (.scr ns)","Nat.div_le_self _ _","I1.hok.fresh ?AH","F.args_zip_next_1 _","tt P w K mg base C_Sums","hs''.extBut b o hb e","gG hN hi hx he hs hf","h.len.trans hn.symm","Pur.lay pu.fh fresh","Inv X pins σ ?G3 s","yc ?CL (yc ?Di yr)","yc ?JB ?FY","xh g x k ?A _ _ nk","xX X.K B Ω Γ Γ'","wpAny_typeOf hT ?_","shR L.length (F i)","k _ _ _ ?Ag (JH F)","k _ H F ?Ag (h3 F)","isTrue e X.env ?Cj","e2 _ _ (e1 _ _ fl)","binaryOp .FloorDiv","Ww I1 ea c hm l ?_","W3 X B sts Γ Ω E","VR X.K B Γ F σ R","V3 X B ?tT Γ Ω R","PL3 X Γ es (kT k)","PIE X pins σ tg R","PE X ?yP (tCB r t)","P3 X Γ b (.str y)","P3 X Γ a (.int j)","Option.some.inj h2","Nat.lt_trans ?B h","h F1 σ H1 (S.pur p1)","Γ.set i (some ?Av)","qT yr ⟨?uP,?_⟩","VT3 X B e Γ Ω RT","FnScope N ps scope","yN (My.G_pos ?Bq)","wpAny_of_eq f3 ?_","vA ?Bd ?K0 (qv x)","upd H l (.lst ys)","ju (qY ?wP ?D x)","h3 F2 (w.trans e)","byE L ch es ?D h","assign tg X.env u","S'.own p (e p hp)","Ql L rs kb i j es","P3 X Γ a (.bl k)","HeapKind prog w K","⟨s3.heap.objs.size,s3,?tW,fp⟩","yc ?AS (yc ?B9 yr)","yN (My.G_pos ?Bb)","spN X.K n om C0 C","pu.ff.trans p2.ff","oDt K (knK ?H1) (knV ?H1)","spS K 4 ?Fw (oj n)","Jd ?BH (js ?BH rs)",".obj C_Parts pF (pDU t)","sL P w K mg base C_Grammar","Bc P w K mg base C_Grammar","cb t.rs t.st t.row r","vj t.rs t.st t.row","yc yB (yc yB ?C8)","Y6 jc (Y6 jc (Y6 (fQ ?De Q6) Q6))","AE P w K mg base C_Grammar C_Sums","rq P w K mg base C_Sums C_Parts","Az P w K mg base C_Sums C_Parts","Ax P w K mg base C_Sums C_Parts","List.perm_append_singleton _ _","omG P w K C_Sums ?DA","List.Perm.cons _ ?zT","⟨a,kb,hd,?DA,?yL,hs',rs⟩"]
def nmS (n:Name):Option String:=match n.toString.toList with
|[a,b]=>let i:=(a.toNat-65)*62+(if b.isDigit then b.toNat-48 else if b.isUpper then b.toNat-55 else b.toNat-61);if a.isUpper then tbS[i]? else none
|_=>none
end
set_option hygiene false
open Lean in
local macro_rules
|`(?$x:ident)=>match nmS x.getId.eraseMacroScopes with
 |some s=>match apS 400 s.toList with
  |some (e,[])=>return e
  |_=>Macro.throwUnsupported
 |none=>Macro.throwUnsupported
local macro_rules
|`(?A)=>`(by lia)
|`(?B)=>`(by decide)
|`(?C)=>`((·.1))
|`(?D)=>`((i,j))
local macro_rules
|`(?E)=>`(by decide +kernel)
|`(?G)=>`(Str->Option Value)
|`(?H)=>`(List D->D->Prop)
|`(?I)=>`(Nat->Nat->Rat)
local macro_rules
|`(?J)=>`(Nat×Nat)
|`(?K)=>`(Rat×Rat)
|`(?L)=>`((x==("__debug__" : Str))=false)
|`(?M)=>`(Value->Shared->Prop)
local macro_rules
|`(?N)=>`(by dsimp only[L2.KOf];refine' L2.YY KX G _ ?a ?l ?c ?k ?b;(case a|l|c|k=>k_is);case b=>intro _ _ _ _ _ _ us hl;obtain⟨_,_,rfl⟩:=L3.Zf hl;rfl)
|`(?O)=>`(X.A.units+64<cLine)
|`(?P)=>`(j - i)
|`(?Q)=>`(List (Addr×Obj))
local macro_rules
|`(?R)=>`(Qe I q (by simp))
|`(?S)=>`(.type "list")
|`(?T)=>`(starEach (e::es) X.env=(?AN,?Cj)::starEach es X.env)
|`(?U)=>`((r.1,b0 r))
local macro_rules
|`(?V)=>`(Qc K mg "NOUGHT" (sh 0))
|`(?W)=>`(Nat->Rat)
|`(?X)=>`(D->Om->Prop)
|`(?Y)=>`((r.1,r.2.1))
local macro_rules
|`(?Z)=>`(X.calm=true)
|`(?zA)=>`((?Km).any ?C=false)
|`(?zB)=>`(yC->Rat)
|`(?zC)=>`((·.2))
local macro_rules
|`(?zD)=>`(s.heap.objs.size+1)
|`(?zE)=>`(y::rest)
|`(?zF)=>`(X.N[i]?=some x)
|`(?zG)=>`(starEach [a] X.env=?qO::starEach [] X.env)
local macro_rules
|`(?zH)=>`(fun z=>nomatch z)
|`(?zI)=>`(List (List K2×D))
|`(?zJ)=>`(.raw ?AB::ds)
|`(?zK)=>`(⟨#[c]⟩)
local macro_rules
|`(?zL)=>`((l,Jz X.prog X.w X.K l kvs))
|`(?zM)=>`(List D->Prop)
|`(?zN)=>`(.builtin "object.__class__")
|`(?zO)=>`(fun s=>decide (s.1=p))
local macro_rules
|`(?zP)=>`(Str->Nat->Nat->Rat)
|`(?zQ)=>`(a==sysModules)
|`(?zR)=>`((h,i,j))
|`(?zS)=>`(⟨[],F,H⟩)
local macro_rules
|`(?zT)=>`(List.Perm.swap ..)
|`(?zU)=>`(s.toks+1)
|`(?zV)=>`(by dsimp only[L2.KOf];refine' L2.YY KX G _ ?a ?l ?c ?k ?b;(case a|l|c|k=>k_is);case b=>intro _ _ _ _ _ _ us hl;obtain⟨_,rfl⟩:=L3.KM hl;rfl)
|`(?zW)=>`(ja (fun m=>woS hs row kn i m x) (fun m=>wBm hs row kn ?zE m j) i)
local macro_rules
|`(?zX)=>`(.type "tuple")
|`(?zY)=>`(([],kw))
|`(?zZ)=>`(backToKw pos (keywordEach [] X.env))
|`(?yA)=>`((p.1.den:Int)*(p.2.den:Int))
local macro_rules
|`(?yB)=>`(τ->List D->τ->D->Prop)
|`(?yC)=>`(fun _ _ q=>q)
|`(?yD)=>`((?yL,kw))
|`(?yE)=>`(X.env.scope=SX)
local macro_rules
|`(?yF)=>`(List Es×Kw)
|`(?yG)=>`((hf b hb).1)
|`(?yH)=>`(1 - E k k)
|`(?yI)=>`(ps.length=n)
local macro_rules
|`(?yJ)=>`((f,first))
|`(?yK)=>`([.ref a])
|`(?yL)=>`(([],[]))
|`(?yM)=>`(.Call (.Attribute ?GP "append" apos) [e] [] ppos)
local macro_rules
|`(?yN)=>`(X.fn x=true∨X.env.scope.names.lookup x=some .local)
|`(?yO)=>`(.Call (.Attribute o m apos) (e::es) [] pos)
|`(?yP)=>`(.Call ?FG (e::es) [] pos)
|`(?yQ)=>`(.Call (.Attribute o m apos) [] [] pos)
local macro_rules
|`(?yR)=>`((?Ck).seq s1)
|`(?yS)=>`(List D->Om->Prop)
|`(?yT)=>`(PL3 X Γ (e::es) ds)
|`(?yU)=>`(decide (kv.1=k))
local macro_rules
|`(?yV)=>`(fun _ _=>rfl)
|`(?yW)=>`(9*?P - 5)
|`(?yX)=>`(A.units<cLine)
|`(?yY)=>`(List (κ×V))
local macro_rules
|`(?yZ)=>`(A.handled=none)
|`(?qA)=>`(by rw[yd];lia)
|`(?qB)=>`((h,p.1,p.2))
|`(?qC)=>`(.int (m:Int))
local macro_rules
|`(?qD)=>`((·.2.2))
|`(?qE)=>`(.int (j:Int))
|`(?qF)=>`(⟨rfl,I.turned (t':=?Ac) (fun b o hb e=>eb b o hb e) f0 f1 f3 f4 f5⟩)
|`(?qG)=>`(.ListComp elt [⟨tg,iter,ifs,0⟩] sc pos)
local macro_rules
|`(?qH)=>`(sh (qo rs st (cs.take (i+1)) r))
|`(?qI)=>`(J Γ' Ω'/\μ Γ' Ω'<μ Γ Ω)
|`(?qJ)=>`(behindInMarks op b=false)
|`(?qK)=>`(List.cons.inj (List.cons.inj e').2)
local macro_rules
|`(?qL)=>`(⟨a,kb,hd,?tP,e.2.2,hs3,rs⟩)
|`(?qM)=>`(X.mg "range" = none)
|`(?qN)=>`(s.toks+knd.draws k)
|`(?qO)=>`((?AN,eval a X.env))
local macro_rules
|`(?qP)=>`(PA X (e::es) t)
|`(?qQ)=>`(P.given.tree=none)
|`(?qR)=>`(by rw[YT];lia)
|`(?qS)=>`(by kernel_rfl)
local macro_rules
|`(?qT)=>`(List Str×Nat)
|`(?qU)=>`((x::y::rest,i,j))
|`(?qV)=>`(Gl X "range")
|`(?qW)=>`(.type "type")
local macro_rules
|`(?qX)=>`(.type "dict")
|`(?qY)=>`(by simp;lia)
|`(?qZ)=>`(.type "zip")
|`(?jA)=>`(by rw[YK];lia)
local macro_rules
|`(?jB)=>`(⟨us,[]⟩)
|`(?jC)=>`(om t'++Ω4)
|`(?jD)=>`(by dsimp only[L2.KOf];refine' L2.YY KX G _ ?a ?l ?c ?k ?b;(case a|l|c|k=>k_is);case b=>intro _ _ _ _ _ _ us hl;obtain⟨_,_,_,rfl⟩:=L3.K1 hl;rfl)
|`(?jE)=>`(starEach [a,b] X.env=[?qO,(?AN,?Ey)])
local macro_rules
|`(?jF)=>`(starEach [a] X.env=[?qO])
|`(?jG)=>`(V->Option Int->Option Int->Hp->VK->Prop)
|`(?jH)=>`(show(q.den:Int).natAbs<2 ^ n from hq.2)
|`(?jI)=>`(show(p.den:Int).natAbs<2 ^ m from hp.2)
local macro_rules
|`(?jJ)=>`(fun b o hb e=>(sb.2 b hb).trans e)
|`(?jK)=>`(jN ?AJ ?Eo r.2.1)
|`(?jL)=>`(12+(1+(2100+(1500+1300))))
|`(?jM)=>`(show u=Value.ref a from rx)
local macro_rules
|`(?jN)=>`(starEach [b] X.env=[(?AN,?Ey)])
|`(?jO)=>`((x==("__classdict__" : Str))=false)
|`(?jP)=>`(wBm hs row kn r.2.1 i j e.2)
|`(?jQ)=>`(V->List V->Hp->VK->Prop)
local macro_rules
|`(?jR)=>`(.Compare a [op] [b] pos)
|`(?jS)=>`((∀ b∈fp,H' b=none))
|`(?jT)=>`(rs.drop n++rs.take n)
|`(?jU)=>`(List D->List D->Prop)
local macro_rules
|`(?jV)=>`((p.1,Rat.divInt p.2 ns.sum))
|`(?jW)=>`((t.hs.map erS,?ER))
|`(?jX)=>`(nX X.K B F1 (J (i+1)))
|`(?jY)=>`([s1.heap.objs.size])
local macro_rules
|`(?jZ)=>`(o.data=.dict es ep)
|`(?wA)=>`(A.units+1<cLine)
|`(?wB)=>`(by rw[Q3];lia)
|`(?wC)=>`(j<=row.length)
local macro_rules
|`(?wD)=>`(List Str->Rat)
|`(?wE)=>`(Ga->Om->Prop)
|`(?wF)=>`((?Cg).map qv)
|`(?wG)=>`(fun _ _=>?AC)
local macro_rules
|`(?wH)=>`(fun b hb=>?_)
|`(?wI)=>`(vs.length=n)
|`(?wJ)=>`(Qc K mg "ONE" (sh 1))
|`(?wK)=>`(.int (i:Int))
local macro_rules
|`(?wL)=>`(if (k==NameKind.free&&env.scope.kind==.function&&env.kindOf n==some .cell)=true then (n,NameKind.cell) else (n,k))
|`(?wM)=>`((∀ b o,b≠z->b≠TO->b≠i1->b≠i2->s.heap.get? b=some o->g.get? b=some o))
|`(?wN)=>`(⟨fun _ _=>r=.non,fun r' _=>r'=r,fun _ _=>?AC,fun _ _=>?AC⟩)
|`(?wO)=>`(starEach [e] X.env=(?AN,?Cj)::starEach [] X.env)
local macro_rules
|`(?wP)=>`(Ql L br (QI L ch a.1 ?D a.2.2) i j a.1)
|`(?wQ)=>`(⟨(om t).map (fun p:Addr×Ow=>p.1),F,H⟩)
|`(?wR)=>`(Builtin.«zip.__next__» ⟨[.ref z],[]⟩)
|`(?wS)=>`(.builtin "getset_descriptor.__get__")
local macro_rules
|`(?wT)=>`(vn hs row k.1 br p.1 p.2 k.2)
|`(?wU)=>`(backTo pos (starEach (e::es) X.env))
|`(?wV)=>`(backTo pos (starEach [] X.env))
|`(?wW)=>`(List D->List Str×List D->Prop)
local macro_rules
|`(?wX)=>`(List (List K2×Addr×Value))
|`(?wY)=>`(by simp only[yY] <;> lia)
|`(?wZ)=>`(sp vs H Q E->vs.length=ps.length)
|`(?vA)=>`(List (Str×Value))
local macro_rules
|`(?vB)=>`(Value->Value->Sem Value)
|`(?vC)=>`(Heap.SameBut.update ..)
|`(?vD)=>`(W.hasDictIn K C=true)
|`(?vE)=>`(JE sc.names X.env.cells [])
local macro_rules
|`(?vF)=>`(Γ[i]?=some (some ?Av))
|`(?vG)=>`(u σ H Q->t σ H Q)
|`(?vH)=>`(grp p.1 p.2++vk ps)
|`(?vI)=>`(W.keepIn K ?Al=true)
local macro_rules
|`(?vJ)=>`(by rw[q];decide)
|`(?vK)=>`((?AA).getD i "")
|`(?vL)=>`(Room (k+1) X.A)
|`(?vM)=>`(by rw[Y3];lia)
local macro_rules
|`(?vN)=>`(J1 ds es=true)
|`(?vO)=>`(List (Key×V))
|`(?vP)=>`(u0 L ch e.1 h)
|`(?vQ)=>`(ds.length+1=n)
local macro_rules
|`(?vR)=>`(dep d<=n->Is X.K H d x->Is X.K H e y->kin d e=true->YV x u->YV y v->SeqAt.EqAt A.in1 s u v (qD d e))
|`(?vS)=>`(W.findIn K ?AF "__setattr__" = some (some (.builtin "object.__setattr__")))
|`(?vT)=>`(⟨F',p.fh,?LI,fun v2 H2 F2 p2 i2=>q v2 H2 F2 (p.trans p2) i2⟩)
|`(?vU)=>`(by unfold WF;rw[ye fun z=>by rw[z,hl] at h1;cases h1];exact h1)
local macro_rules
|`(?vV)=>`(nP (rest.length+2) i j)
|`(?vW)=>`(s.heap.push {cls:=.type "range", data:=?uZ})
|`(?vX)=>`(show List.Nodup (α:=Str) ["rule", "live"] by decide +kernel)
|`(?vY)=>`(swapsWith e (some (.Name x pos')) pos.line X.env=pure false)
local macro_rules
|`(?vZ)=>`(.Call (.Attribute ?GP "extend" apos) [e] [] ppos)
|`(?kA)=>`(A.under (.builtin "type.__call__" ⟨.ref C::us,kw⟩))
|`(?kB)=>`((fun _ s'=>∃ σ' H',Inv X pins σ' H' s'/\Q σ' H'))
|`(?kC)=>`(if y.1=b then (y.1,y.2++[pr])::bs else y::ZH bs b pr)
local macro_rules
|`(?kD)=>`((c.a2.extBut s1.extBut D.i2z).extBut s2.extBut D.i12.symm)
|`(?kE)=>`(.Call (.Attribute o "append" apos) [e] [] cpos)
|`(?kF)=>`((∀ x c,X.env.cells.lookup x=some c->c≠b))
|`(?kG)=>`((c.b2.extBut s1.extBut D.l2z).extBut s2.extBut D.l2i1)
local macro_rules
|`(?kH)=>`((∀ b,F' b≠none->F b≠none∨H b=none))
|`(?kI)=>`(Builtin.SmallTypes.nextOf (.ref i2) >>= _)
|`(?kJ)=>`(woS t.s.hs t.s.row t.s.kn i (i+1+q) x0)
|`(?kK)=>`(if i=k' then 0 else f' i+f' k'*g' i)
local macro_rules
|`(?kL)=>`(b∈X.ex∨X.s₀.heap.objs.size<=b)
|`(?kM)=>`(Builtin.SmallTypes.nextOf (.ref i1) >>= _)
|`(?kN)=>`(fun w hw=>c1 w (by simpa using hw))
|`(?kO)=>`(.Call (.Name "range" p) [a] [] pos)
local macro_rules
|`(?kP)=>`(h.get? b=some u->h'.get? b=some u)
|`(?kQ)=>`(show X.A.units+1+1<cLine by lia)
|`(?kR)=>`(wBm hs row kn r.2.1 i j acc.2)
|`(?kS)=>`(ds.length+es.length<=sizeLine)
local macro_rules
|`(?kT)=>`(.BoolOp .And (a::b::rest) pos)
|`(?kU)=>`(⟨fun d w=>?_,fun w=>?_⟩)
|`(?kV)=>`(((c.2:Nat):Rat)*KI rs st c.1 r)
|`(?kW)=>`(show u=Value.ref b from ry)
local macro_rules
|`(?kX)=>`(omH P w K l1++omH P w K l2)
|`(?kY)=>`(.BoolOp .And (b::rest) pos)
|`(?kZ)=>`(GSt->List D->GSt->D->Prop)
|`(?xA)=>`(if p.1=k then v else p.2)
local macro_rules
|`(?xB)=>`(kin e d=true/\dep e<=60)
|`(?xC)=>`(Str.ofString "__next__")
|`(?xD)=>`(PG->List D->PG->D->Prop)
|`(?xE)=>`(by rw[i1.len];exact hz)
local macro_rules
|`(?xF)=>`(fun _ _ q=>q.mono f3)
|`(?xG)=>`(W.plainOver K C=true)
|`(?xH)=>`(Str->Option NameKind)
|`(?xI)=>`(Result->Shared->Prop)
local macro_rules
|`(?xJ)=>`(List V->Hp->VK->Prop)
|`(?xK)=>`(s2.toks+([]:?vA).length)
|`(?xL)=>`(ds.length<=sizeLine)
|`(?xM)=>`(QI L ch a.1 p a.2.2)
local macro_rules
|`(?xN)=>`((Y7 n).getD k (0,0))
|`(?xO)=>`(fun vs H Q E h=>?_)
|`(?xP)=>`(List (List Key×V))
|`(?xQ)=>`(c / 8 % (1+c % 8))
local macro_rules
|`(?xR)=>`(by rw[YT];exact h)
|`(?xS)=>`(X.mg "len" = none)
|`(?xT)=>`(X.A.units+1<cLine)
|`(?xU)=>`((s.1,ZH s.2 b pr))
local macro_rules
|`(?xV)=>`(by rw[YF];exact fl)
|`(?xW)=>`(by rw[yw];exact hn)
|`(?xX)=>`(⟨I.base.keep,I.base.slot,fun b o' q n hx=>nn b (I.base.free b o' q n hx),I.base.there,fun b xs q=>?_,fun b o' v q=>?_,fun b ps q=>?_⟩)
|`(?xY)=>`(Yh F H->Is X.K F d x->Is X.K F d' y->(∀ v H' F',Pur F H F' H'->Is X.K F' d3 v->Q v H')->r x y H Q)
local macro_rules
|`(?xZ)=>`([some (.obj C_Grammar ["first", "kept_rules", "kept_heads"] [.str st,.lst ?AO,.lst ?D8]),some (.str st),some ?Bo])
|`(?uA)=>`(fun r s'=>r=.ok (.ret ?DQ)/\OldK s₁.heap s'.heap/\s'.os=s₁.os/\AllBare s'.gens)
|`(?uB)=>`(YZ K C_Sums "sum_of_partings" "Sums.sum_of_partings" qk ["self", "body", "i", "j"])
|`(?uC)=>`(s3.heap.push {cls:=.type "slice", data:=.fields #[vl,vu,.none]})
local macro_rules
|`(?uD)=>`(⟨fun d w=>?_,fun w=>⟨xs,?yR,by rw[j1.len];exact w⟩⟩)
|`(?uE)=>`(p.num*(q.den / G p.den q.den)+q.num*(p.den / G p.den q.den))
|`(?uF)=>`(Yh F H->Is X.K F d x->Is X.K F d' y->Q (.bl k) H->r x y H Q)
|`(?uG)=>`(W3 X B (.Assign [.Subscript o i tpos] e spos::rest) Γ Ω E)
local macro_rules
|`(?uH)=>`(.Call (.Name "len" p) [a] [] pos)
|`(?uI)=>`(⟨by rw[yR ne];exact h1,o',h2,fun F2 e=>?PT⟩)
|`(?uJ)=>`(kg t.s.L t.s.hs t.s.row t.s.kn (x0::y0::rest) tot i j)
|`(?uK)=>`(HT.sIx xs.length xs.length hi - HT.sIx xs.length 0 lo)
local macro_rules
|`(?uL)=>`(X.fn y=true∨X.env.scope.names.lookup y=some .local)
|`(?uM)=>`(W3 X B (.Assign [.Name x pos'] e pos::rest) Γ Ω E)
|`(?uN)=>`(sIx items.size items.size hi - sIx items.size 0 lo)
|`(?uO)=>`(s.heap.push {cls:=?qX, data:=.dict #[]})
local macro_rules
|`(?uP)=>`(by (simp only[yw,qb];decide))
|`(?uQ)=>`(⟨⟨xs,x,?yR,hx⟩,fun y H3 ⟨z,w'⟩=>?_⟩)
|`(?uR)=>`((∀ i gs Ω',J i gs Ω'->gs.length<sizeLine))
|`(?uS)=>`(wBm t.hs t.row t.kn ?zE (i+1+k) j (?DB).2)
local macro_rules
|`(?uT)=>`(wBm t.s.hs t.s.row t.s.kn (y0::rest) (i+1+q) j c.2)
|`(?uU)=>`(swapsWith e none pos.line X.env=pure false)
|`(?uV)=>`(if k=f then (k,v)::r else (k,x)::V9 f v r)
|`(?uW)=>`(attributeBase e f X.env ?Cj=eval e X.env)
local macro_rules
|`(?uX)=>`((∀ b o,b≠a->H b=some o->H' b=some o))
|`(?uY)=>`(.ListComp elt [⟨tg,iter,[],0⟩] sc pos)
|`(?uZ)=>`(.fields #[.int lo t,.int hi u,.int 1 v])
|`(?tA)=>`(["ways", "ends", "rows", "k", "found"])
local macro_rules
|`(?tB)=>`((s.2.1,Jz P w K s.2.1 (s.2.2.map hbV)))
|`(?tC)=>`(by intro z;rw[z] at tl;simp at tl;lia)
|`(?tD)=>`(W3 X B (.If c a b pos::rest) Γ Ω E)
|`(?tE)=>`(.Call (.Name "range" p) [a,b] [] pos)
local macro_rules
|`(?tF)=>`(by show X.A.units+1+60<cLine;lia)
|`(?tG)=>`(by rw[I.list_inj hy hq];exact hx)
|`(?tH)=>`(V3 X B (.Dict [] [] pos) Γ Ω R)
|`(?tI)=>`((l,YW K (yT ((?Es).map (KL c)))))
local macro_rules
|`(?tJ)=>`(by rw[yR (nown c _ z)];exact z)
|`(?tK)=>`(Qc K mg "MOST_LETTERS" (.int 8))
|`(?tL)=>`(fun j=>if j=k then 0 else f j)
|`(?tM)=>`(decide (r.1=h)&&jN hs L r.2.1)
local macro_rules
|`(?tN)=>`(W.plainGet K C Str.empty=true)
|`(?tO)=>`(if p.1=k then (p.1,v) else p)
|`(?tP)=>`(gS C_Grammar st rs row sa sb sc e.2.1)
|`(?tQ)=>`(QI ?AA ?B1 ?MB (p.1,p.2) e.2.2)
local macro_rules
|`(?tR)=>`(by dsimp only[L2.KOf];refine' L2.YY KX G _ ?a ?l ?c ?k ?b;(case a|l|c|k=>k_is);case b=>intro _ _ _ _ _ _ us hl;obtain⟨_,_,_,_,rfl⟩:=L3.fT hl;rfl)
|`(?tS)=>`(wpAny_pyIter_list p.isList ⟨?DK,_,_,_,_,_,fun i=>?Dm,rfl,Walks.list (show X.A.in1.handled=none from I.ok.hd hc) s.heap.objs.size a (Ym (let ⟨_,e,_⟩:=p.isList;yu e)) its.toArray,⟨?Dh,p.isList.at fun o e=>?At⟩,?_,?_⟩)
|`(?tT)=>`(.Call (.Attribute o "get" apos) [e,f] [] cpos)
|`(?tU)=>`(⟨fun _ _=>?AC,fun r _=>∃ hs ws rs,GOk hs ws rs/\hs.length<=m/\r=.tup [.lst (yT hs),.lst ?Bi,.lst ?AO],fun _ _=>?AC,fun _ _=>?AC⟩)
local macro_rules
|`(?tV)=>`(Wb (pl:=pl) jl c hM Fn hr hb .nil kM iS hst hpl ht pins s σ H _ I ((?KV).mono fun v H1 ⟨dq,Ω0,F1,S1,f1,i1,e1,hin,h1⟩=>?_))
|`(?tW)=>`(upd H2 s2.heap.objs.size (.lst []))
|`(?tX)=>`(cj M Fn hr hg hm hb .nil kM ha hdb he hpl pins s σ H _ I ⟨F,S.fh,S.sl,fun vs H1 F1 p1 i1 a dx ha' hdx hne=>?_⟩)
|`(?tY)=>`((t.s.a,zi K C_Sums sF [t.s.g,Yd t.s.row,.lst ?Lq,.lst ?Il,chD t.s.L t.s.ch,.raw (.ref t.s.b),.raw (.ref t.s.c)]))
local macro_rules
|`(?tZ)=>`(show false=true from hs)
set_option bootstrap.genMatcherCode false
open Lean in
local macro_rules
|`(command|$d:declaration)=>do
 let d:=d.raw
 if (d[1].isOfKind ``Parser.Command.definition||d[1].isOfKind ``Parser.Command.abbrev)&&d[0][4].isNone then return d.setArg 0 (d[0].setArg 4 (mkNullNode #[mkNode ``Parser.Command.noncomputable #[mkAtom "noncomputable"]]))
 Macro.throwUnsupported
abbrev Yw:=@Bool.and_eq_true
abbrev Q1:=@Bool.eq_false_iff
abbrev YG:=@Bool.eq_iff_iff
abbrev Y9:=@Bool.false_eq_true
abbrev yV:=@Bool.false_ne_true
abbrev YJ:=@Int.eq_ofNat_of_zero_le
abbrev Yq:=@Int.fdiv_eq_ediv_of_nonneg
abbrev jv:=@Int.fmod_eq_emod_of_nonneg
abbrev yN:=@Int.le_of_lt
abbrev QT:=@Int.mul_ediv_cancel_left
abbrev QD:=@Int.mul_nonneg
abbrev Qm:=@Int.mul_pos
abbrev qU:=@Int.natAbs_natCast
abbrev QW:=@Int.natCast_ediv
abbrev qK:=@Int.natCast_mul
abbrev Qz:=@Int.toNat_natCast
abbrev jZ:=@List.all_eq_true
abbrev JG:=@List.any_cons
abbrev QX:=@List.append_assoc
abbrev yM:=@List.append_nil
abbrev YQ:=@List.cons_append
abbrev Q0:=@List.count_append
abbrev jR:=@List.count_cons
abbrev Qw:=@List.ext_getElem?
abbrev qu:=@List.filter_append
abbrev YE:=@List.filter_cons_of_neg
abbrev YD:=@List.filter_cons_of_pos
abbrev yS:=@List.find?_cons
abbrev zb:=@List.find?_eq_none
abbrev Jk:=@List.find?_some
abbrev Qk:=@List.flatMap_append
abbrev Qt:=@List.flatMap_cons
abbrev y7:=@List.foldl_append
abbrev Yz:=@List.foldl_cons
abbrev zm:=@List.forIn_cons
abbrev yW:=@List.getD_eq_getElem?_getD
abbrev Qf:=@List.getElem?_append_left
abbrev qz:=@List.getElem?_append_right
abbrev yl:=@List.getElem?_eq_getElem
abbrev yE:=@List.getElem?_eq_none_iff
abbrev yi:=@List.getElem?_eq_some_iff
abbrev yz:=@List.getElem?_map
abbrev jJ:=@List.getElem?_range
abbrev jq:=@List.getElem?_replicate
abbrev qN:=@List.getElem?_set
abbrev qM:=@List.getElem?_set_ne
abbrev qG:=@List.getElem?_zip_eq_some
abbrev qi:=@List.idxOf_lt_length_iff
abbrev yK:=@List.length_append
abbrev yw:=@List.length_cons
abbrev j7:=@List.length_drop
abbrev QK:=@List.length_eq_one_iff
abbrev Qy:=@List.length_eq_zero_iff
abbrev Yv:=@List.length_filter_le
abbrev yd:=@List.length_map
abbrev J7:=@List.length_mapIdx
abbrev qb:=@List.length_nil
abbrev Qn:=@List.length_pos_iff
abbrev Q7:=@List.length_replicate
abbrev jG:=@List.length_reverse
abbrev qq:=@List.length_tail
abbrev yH:=@List.length_take
abbrev Y3:=@List.length_zip
abbrev Yy:=@List.lookup_cons
abbrev yk:=@List.map_append
abbrev Jv:=@List.map_congr_left
abbrev yt:=@List.map_cons
abbrev YB:=@List.map_map
abbrev ji:=@List.map_nil
abbrev Yj:=@List.mem_append
abbrev yq:=@List.mem_append_left
abbrev yF:=@List.mem_append_right
abbrev yG:=@List.mem_cons
abbrev yb:=@List.mem_cons_of_mem
abbrev yh:=@List.mem_cons_self
abbrev Ys:=@List.mem_filter
abbrev Y1:=@List.mem_flatMap
abbrev yn:=@List.mem_map
abbrev Yx:=@List.mem_of_find?_eq_some
abbrev yx:=@List.mem_of_getElem?
abbrev YO:=@List.mem_of_mem_take
abbrev qS:=@List.mem_range
abbrev yy:=@List.mem_singleton
abbrev Jl:=@List.nil_append
abbrev Ye:=@List.nodup_append
abbrev Yi:=@List.nodup_cons
abbrev Qa:=@List.nodup_nil
abbrev Y8:=@List.not_mem_nil
abbrev QG:=@List.of_mem_zip
abbrev Yu:=@List.perm_append_comm
abbrev Qq:=@List.perm_iff_count
abbrev JB:=@List.perm_middle
abbrev qw:=@List.range_succ
abbrev yY:=@List.size_toArray
abbrev Q8:=@List.take_append_drop
abbrev yI:=@List.take_length
abbrev jB:=@List.take_sublist
abbrev Yb:=@List.zip_cons_cons
abbrev Q3:=@Nat.add_mul
abbrev jA:=@Nat.le_add_right
abbrev Qb:=@Nat.le_of_lt
abbrev yg:=@Nat.le_refl
abbrev qy:=@Nat.le_succ_of_le
abbrev yU:=@Nat.le_trans
abbrev jH:=@Nat.lt_irrefl
abbrev QS:=@Nat.lt_of_le_of_lt
abbrev Yc:=@Nat.lt_of_lt_of_le
abbrev JN:=@Nat.lt_or_ge
abbrev JI:=@Nat.mul_comm
abbrev ql:=@Nat.mul_div_cancel_left
abbrev qt:=@Nat.mul_le_mul
abbrev YI:=@Nat.mul_le_mul_right
abbrev Qj:=@Nat.mul_pos
abbrev QN:=@Nat.ne_of_gt
abbrev Ym:=@Nat.ne_of_lt
abbrev jk:=@Nat.pow_add
abbrev YU:=@Nat.pow_le_pow_right
abbrev jQ:=@Nat.pow_pos
abbrev QJ:=@Nat.pow_succ
abbrev Qv:=@Nat.succ_le_succ
abbrev qp:=@Nat.zero_add
abbrev YC:=@Nat.zero_le
abbrev JJ:=@Option.isSome_iff_exists
abbrev Yk:=@Option.map_eq_some_iff
abbrev jD:=@Rat.divInt_add_divInt
abbrev jI:=@Rat.divInt_mul_divInt
abbrev jO:=@Rat.div_def
abbrev YH:=@Rat.le_of_lt
abbrev qr:=@Rat.le_refl
abbrev QP:=@Rat.mul_le_mul_of_nonneg_right
abbrev YX:=@Rat.num_divInt_den
abbrev Qx:=@Rat.zero_add
section
open PySem PySem.Spec PyProof.Rows
abbrev yv:=@Heap.get?_push_of_some
abbrev yO:=@Heap.get?_push_size
abbrev yu:=@Heap.lt_size
abbrev yA:=@decide_eq_false
abbrev yL:=@decide_eq_true
abbrev Y0:=@decide_eq_true_eq
abbrev ye:=@if_neg
abbrev yf:=@if_pos
abbrev ya:=@wpAny_bind
abbrev qA:=@wpAny_call_entry
abbrev YR:=@wpAny_field
abbrev YA:=@wpAny_holding
abbrev qa:=@wpAny_mono
abbrev qe:=@wpAny_newObj_type
abbrev qg:=@wpAny_nextOf_list_item
abbrev yj:=@wpAny_pure
abbrev qC:=@wpAny_setField_rec
abbrev qL:=@wpAny_truthy_bool
end
namespace L2
open PySem
def QF (s:Stmt)(j:Nat):Stmt:=match s with
 |.ClassDef _ _ _ body _ _ _ _ _ _ _=>body.getD j (.Pass ?Hv)
 |_=>.Pass ?Hv
def Ju (s:Stmt):Arguments:=match s with
 |.FunctionDef _ a _ _ _ _ _ _ _ _=>a
 |_=>{posonlyargs:=[],args:=[],vararg:=none,kwonlyargs:=[],kw_defaults:=[],kwarg:=none,defaults:=[]}
def qj (s:Stmt):?Aw:=match s with
 |.FunctionDef _ _ b _ _ _ _ _ _ _=>b
 |_=>[]
def yo (s:Stmt):?BR:=match s with
 |.FunctionDef _ _ _ _ _ _ sc _ _ _=>sc
 |_=>{kind:=.function,names:=[],isGenerator:=?AN,isCoroutine:=?AN}
end L2
namespace Law
open PySem L2
def top (i:Nat):Stmt:=PySem.Challenge.pw_scoreflow_k18_counts_shared_out.main.body.getD i (.Pass ?Hv)
abbrev Av:Stmt:=top 0
abbrev jf:Stmt:=top 10
abbrev VP:Stmt:=top 11
abbrev Vw:Stmt:=top 12
abbrev Zi:Stmt:=top 13
abbrev Kr:Stmt:=top 14
abbrev Ve:Stmt:=top 15
abbrev Qr:Stmt:=top 16
abbrev Z7:Stmt:=top 17
abbrev QA:Stmt:=QF (top 22) 0
abbrev jz:Stmt:=QF (top 22) 1
abbrev jx:Stmt:=QF (top 22) 2
abbrev jy:Stmt:=QF (top 22) 3
abbrev jV:Stmt:=QF (top 22) 4
abbrev Jq:Stmt:=top 23
abbrev J3:Stmt:=top 24
abbrev jX:Stmt:=top 25
abbrev JC:Stmt:=top 26
abbrev zK:Stmt:=top 27
abbrev Jo:Stmt:=top 28
abbrev JY:Stmt:=top 29
abbrev Zn:Stmt:=top 30
abbrev Zj:Stmt:=top 31
abbrev QY:Stmt:=top 32
abbrev jj:Stmt:=top 33
abbrev JO:Stmt:=top 35
abbrev QE:Stmt:=top 37
abbrev QB:Stmt:=top 38
abbrev vb:Stmt:=top 39
abbrev Z5:Stmt:=top 40
abbrev Qu:Stmt:=QF ?Dc 0
abbrev Jp:Stmt:=QF ?Dc 1
abbrev J6:Stmt:=QF ?Dc 2
abbrev jP:Stmt:=QF ?Dc 3
abbrev jY:Stmt:=QF ?Dc 4
abbrev J5:Stmt:=QF ?Dc 5
abbrev Qh:Stmt:=QF ?Dc 6
abbrev qk:Stmt:=QF ?Dc 7
abbrev Je:Stmt:=top 43
abbrev Z9:Stmt:=top 44
abbrev j8:Stmt:=top 45
abbrev jW:Stmt:=QF ?Db 0
abbrev JQ:Stmt:=QF ?Db 1
abbrev cm:Stmt:=QF ?Db 2
abbrev J8:Stmt:=QF ?Db 3
abbrev zP:Stmt:=QF ?Db 4
abbrev qB:Stmt:=QF ?Db 5
abbrev Qp:Stmt:=QF ?Db 6
abbrev YN:Stmt:=QF ?Db 7
abbrev kR:Stmt:=top 49
abbrev JK:Stmt:=top 50
abbrev JD:Stmt:=top 51
abbrev zp:Stmt:=top 53
abbrev vg:Stmt:=top 54
abbrev va:Stmt:=top 55
abbrev Jm:Stmt:=top 56
abbrev zG:Stmt:=top 57
abbrev ZF:Stmt:=top 58
abbrev ZA:Stmt:=top 59
abbrev zV:Stmt:=top 60
abbrev zH:Stmt:=top 61
abbrev vd:Stmt:=top 62
abbrev Z6:Stmt:=top 63
abbrev zr:Stmt:=top 64
abbrev J0:Stmt:=top 65
abbrev Vg:Stmt:=top 66
abbrev d8:Stmt:=top 67
abbrev fO (n q:Str)(s:Stmt)(m:?AK)(a:Addr):Obj:={cls:=.type "function", dict:=?An,data:=.func (W.fnOf n q (L2.Ju s) (L2.qj s) (L2.yo s) .none .none .none m .none ?AB .none),slots:=#[]}
abbrev cO (x y:Str)(a b c:Nat)(l i j k m:Int)(r:Addr)(t:Bool)(g:Int)(u:Addr)(v v1 v2 v3:?AK)(h:Int)(d:Nat):Obj:={cls:=.type "code", data:=.fields #[.str x a,.str y b,.str "/claim/cut.py" c,.int l 0,.int i 0,.int j 0,.int k 0,.int m 0,.ref r,.bool t,.int g 0,.ref u,v,v1,v2,v3,.int h 0,.int l 0,.str "/claim/cut.py" d]}
abbrev dO (a:?Eh)(n:Nat):Obj:={cls:=?qX, data:=.dict a n}
abbrev uO (i:Addr):Obj:={cls:=.type "super", data:=.fields #[.ref i,.ref i,.ref i]}
abbrev vL (s:?Bv)(v:?AK):Obj:={cls:=.type "builtin_function_or_method", data:=.fields #[.builtin s,v]}
abbrev mO (a b c:Addr)(v:?AK):Obj:={cls:=.type "frame", slots:=#[.some ?AB,.some ?Be,.some (.ref c),.none,.some v,.none,.some (.ref 0)]}
abbrev nO:Obj:={cls:=?An,data:=.fields #[]}
abbrev tO (a:?CN):Obj:={cls:=?zX, data:=.seq a}
abbrev cQ (x y:Str)(a:Nat)(l i:Int)(r:Addr)(v v2 v3:?AK)(h:Int)(d:Nat):Obj:=cO x y a (a+1) (a+2) l i 0 0 3 r true 181 (r+1) .none v v2 v3 h d
abbrev cR (x:Str):=cQ x x
abbrev fN (x:Str):=fO x x
abbrev mVA:?AK:=.str "scoreflow.grammar" 362
abbrev mVB:?AK:=.str "law_scoreflow_k18_counts_shared_out" 804
abbrev mVC:?AK:=.str "scoreflow.errors" 194
abbrev mVD:?AK:=.str "scoreflow.sums" 550
abbrev mVE:?AK:=.str "scoreflow.parts" 673
abbrev mVF:?AK:=.str "scoreflow.shares" 278
abbrev mVG:?AK:=.str "scoreflow.solving" 522
def en (P:?CZ)(x:Str)(t:Nat)(v:?AK):DictEntry:={hash:=PyData.keyHash P x,key:=.str x t,val:=v}
def S6 (P:?CZ)(x:Str)(t:Nat)(a:Addr):DictEntry:=en P x t ?AB
def KP:Params->W.Frag:=fun P=>
 (nat_lit 2,{cls:=.none,data:=.dict #[]})::
 (nat_lit 3,dO #[en P "__name__" 165 mVB,en P "__doc__" 166 .none,en P "__package__" 167 .none,en P "__loader__" 168 (.builtin "__main__.__loader__#opaque"),en P "__spec__" 169 .none,S6 P "__annotations__" 170 6,S6 P "__builtins__" 171 4,en P "__file__" 173 (.str "/claim/cut.py" 172),en P "__cached__" 174 .none,S6 P "_wall" 193 21,S6 P "ScoreError" 213 31,S6 P "NoShare" 229 44,S6 P "NoEnd" 245 56,S6 P "NoGrammar" 261 68,S6 P "NoTree" 277 80,S6 P "NOUGHT" 282 83,S6 P "ONE" 285 84,S6 P "common_divisor" 294 91,S6 P "share" 303 98,S6 P "added" 314 105,S6 P "lessened" 322 112,S6 P "timed" 332 119,S6 P "parted" 340 126,S6 P "sum_of_products" 353 133,S6 P "is_less" 361 140,en P "MOST_RULES" 365 (.int 30 364),en P "MOST_SYMBOLS" 367 (.int 4 366),en P "MOST_LETTERS" 369 (.int 8 368),S6 P "Grammar" 430 185,S6 P "check_rules" 439 196,S6 P "check_rule" 447 203,S6 P "check_symbol" 454 210,S6 P "is_symbol" 460 215,S6 P "is_letter" 467 222,S6 P "check_start" 475 229,S6 P "check_sums" 486 236,S6 P "heads_of" 495 243,S6 P "live_of" 501 248,S6 P "has_live_body" 507 253,S6 P "is_live_body" 513 258,S6 P "stretches" 521 263,S6 P "solved_rows" 529 268,S6 P "without_itself" 535 273,S6 P "put_in" 541 278,S6 P "cleared" 549 285,S6 P "Sums" 652 347,S6 P "live_rules" 658 356,S6 P "is_step" 666 363,S6 P "chains_of" 672 368,S6 P "Parts" 770 428,S6 P "learnt" 786 439,S6 P "counts_of" 792 444,S6 P "sums_by_head" 803 451,S6 P "_law_cell_at" 813 458,S6 P "_law_dice" 820 465,S6 P "_law_roll" 828 472,S6 P "_law_symbols" 844 479,S6 P "_law_share" 855 486,S6 P "_law_added" 863 493,S6 P "_law_timed" 871 500,S6 P "_law_bodies" 886 507,S6 P "_law_rules" 892 512,S6 P "_law_made" 905 519,S6 P "_law_row" 911 524,S6 P "_law_counted" 922 531,S6 P "_law_counts" 928 536,S6 P "_law_due" 941 543,S6 P "law" 960 550] 68)::
 (nat_lit 20,cR "_wall" 187 1 1 15 (.ref 17) (.ref 18) (.ref 19) 191 192 )::
 (nat_lit 21,fN "_wall" Av (.str "__main__" 164) 20)::
 (nat_lit 30,dO #[en P "__module__" 203 mVC,en P "__firstlineno__" 207 (.int 5 206),S6 P "__static_attributes__" 208 29,S6 P "__weakref__" 210 32,en P "__doc__" 211 .none] 3)::
 (nat_lit 31,{cls:=.type "type", data:=.cls {name:="ScoreError", bases:=[.type "ValueError"],mro:=[.ref 31,.type "ValueError", .type "Exception", .type "BaseException", .type "object"],ns:=30,qualname:="ScoreError", subclasses:=[.ref 44,.ref 56,.ref 68,.ref 80]},slots:=#[.some (.ref 22),.none,.some (.str "ScoreError" 196),.some (.str "ScoreError" 204),.some (.builtin "ValueError.__new__"),.some (.bool Bool.true)]})::
 (nat_lit 32,{cls:=.type "getset_descriptor", data:=.fields #[.str "__weakref__" 209,.ref 31,.builtin "ExceptionGroup.__weakref__", .none]})::
 (nat_lit 43,dO #[en P "__module__" 221 mVC,en P "__firstlineno__" 225 (.int 7 224),S6 P "__static_attributes__" 226 42,en P "__doc__" 227 .none] 2)::
 (nat_lit 44,{cls:=.type "type", data:=.cls {name:="NoShare", bases:=[.ref 31],mro:=[.ref 44,.ref 31,.type "ValueError", .type "Exception", .type "BaseException", .type "object"],ns:=43,qualname:="NoShare" },slots:=#[.some (.ref 35),.none,.some (.str "NoShare" 214),.some (.str "NoShare" 222),.some (.builtin "ValueError.__new__"),.some (.bool Bool.true)]})::
 (nat_lit 55,dO #[en P "__module__" 237 mVC,en P "__firstlineno__" 241 (.int 9 240),S6 P "__static_attributes__" 242 54,en P "__doc__" 243 .none] 2)::
 (nat_lit 56,{cls:=.type "type", data:=.cls {name:="NoEnd", bases:=[.ref 31],mro:=[.ref 56,.ref 31,.type "ValueError", .type "Exception", .type "BaseException", .type "object"],ns:=55,qualname:="NoEnd" },slots:=#[.some (.ref 47),.none,.some (.str "NoEnd" 230),.some (.str "NoEnd" 238),.some (.builtin "ValueError.__new__"),.some (.bool Bool.true)]})::
 (nat_lit 67,dO #[en P "__module__" 253 mVC,en P "__firstlineno__" 257 (.int 11 256),S6 P "__static_attributes__" 258 66,en P "__doc__" 259 .none] 2)::
 (nat_lit 68,{cls:=.type "type", data:=.cls {name:="NoGrammar", bases:=[.ref 31],mro:=[.ref 68,.ref 31,.type "ValueError", .type "Exception", .type "BaseException", .type "object"],ns:=67,qualname:="NoGrammar" },slots:=#[.some (.ref 59),.none,.some (.str "NoGrammar" 246),.some (.str "NoGrammar" 254),.some (.builtin "ValueError.__new__"),.some (.bool Bool.true)]})::
 (nat_lit 79,dO #[en P "__module__" 269 mVC,en P "__firstlineno__" 273 (.int 13 272),S6 P "__static_attributes__" 274 78,en P "__doc__" 275 .none] 2)::
 (nat_lit 80,{cls:=.type "type", data:=.cls {name:="NoTree", bases:=[.ref 31],mro:=[.ref 80,.ref 31,.type "ValueError", .type "Exception", .type "BaseException", .type "object"],ns:=79,qualname:="NoTree" },slots:=#[.some (.ref 71),.none,.some (.str "NoTree" 262),.some (.str "NoTree" 270),.some (.builtin "ValueError.__new__"),.some (.bool Bool.true)]})::
 (nat_lit 83,tO #[.int 0 280,.int 1 281])::
 (nat_lit 84,tO #[.int 1 283,.int 1 284])::
 (nat_lit 90,cR "common_divisor" 286 18 2 85 (.ref 87) (.ref 88) (.ref 89) 292 293 )::
 (nat_lit 91,fN "common_divisor" jf mVF 90)::
 (nat_lit 97,cR "share" 295 24 2 92 (.ref 94) (.ref 95) (.ref 96) 301 302 )::
 (nat_lit 98,fN "share" VP mVF 97)::
 (nat_lit 104,cR "added" 304 31 2 99 (.ref 101) (.ref 102) (.ref 103) 312 313 )::
 (nat_lit 105,fN "added" Vw mVF 104)::
 (nat_lit 111,cR "lessened" 315 36 2 106 (.ref 108) (.ref 109) (.ref 110) 320 321 )::
 (nat_lit 112,fN "lessened" Zi mVF 111)::
 (nat_lit 118,cR "timed" 323 40 2 113 (.ref 115) (.ref 116) (.ref 117) 330 331 )::
 (nat_lit 119,fN "timed" Kr mVF 118)::
 (nat_lit 125,cR "parted" 333 44 2 120 (.ref 122) (.ref 123) (.ref 124) 338 339 )::
 (nat_lit 126,fN "parted" Ve mVF 125)::
 (nat_lit 132,cR "sum_of_products" 341 48 1 127 (.ref 129) (.ref 130) (.ref 131) 351 352 )::
 (nat_lit 133,fN "sum_of_products" Qr mVF 132)::
 (nat_lit 139,cR "is_less" 354 58 2 134 (.ref 136) (.ref 137) (.ref 138) 359 360 )::
 (nat_lit 140,fN "is_less" Z7 mVF 139)::
 (nat_lit 153,cQ "__init__" "Grammar.__init__" 382 66 3 148 (.ref 150) (.ref 151) (.ref 152) 388 389 )::
 (nat_lit 154,fO "__init__" "Grammar.__init__" QA mVA 153)::
 (nat_lit 160,cQ "start" "Grammar.start" 391 75 1 155 (.ref 157) (.ref 158) (.ref 159) 395 396 )::
 (nat_lit 161,fO "start" "Grammar.start" jz mVA 160)::
 (nat_lit 167,cQ "rules" "Grammar.rules" 398 78 1 162 (.ref 164) (.ref 165) (.ref 166) 402 403 )::
 (nat_lit 168,fO "rules" "Grammar.rules" jx mVA 167)::
 (nat_lit 174,cQ "heads" "Grammar.heads" 405 81 1 169 (.ref 171) (.ref 172) (.ref 173) 409 410 )::
 (nat_lit 175,fO "heads" "Grammar.heads" jy mVA 174)::
 (nat_lit 181,cQ "live" "Grammar.live" 412 84 1 176 (.ref 178) (.ref 179) (.ref 180) 416 417 )::
 (nat_lit 182,fO "live" "Grammar.live" jV mVA 181)::
 (nat_lit 184,dO #[en P "__module__" 377 mVA,en P "__firstlineno__" 381 (.int 64 380),S6 P "__init__" 390 154,S6 P "start" 397 161,S6 P "rules" 404 168,S6 P "heads" 411 175,S6 P "live" 418 182,S6 P "__static_attributes__" 423 183,S6 P "__dict__" 425 186,S6 P "__weakref__" 427 187,en P "__doc__" 428 .none] 4)::
 (nat_lit 185,{cls:=.type "type", data:=.cls {name:="Grammar", bases:=[.type "object"],mro:=[.ref 185,.type "object"],ns:=184,qualname:="Grammar" },slots:=#[.none,.none,.some (.str "Grammar" 370),.some (.str "Grammar" 378),.some (.builtin "object.__new__"),.some (.bool Bool.true)]})::
 (nat_lit 186,{cls:=.type "getset_descriptor", data:=.fields #[.str "__dict__" 424,.ref 185,.builtin "function.__dict__", .builtin "function.__dict__#set"]})::
 (nat_lit 187,{cls:=.type "getset_descriptor", data:=.fields #[.str "__weakref__" 426,.ref 185,.builtin "ExceptionGroup.__weakref__", .none]})::
 (nat_lit 195,cR "check_rules" 431 86 1 190 (.ref 192) (.ref 193) (.ref 194) 437 438 )::
 (nat_lit 196,fN "check_rules" Jq mVA 195)::
 (nat_lit 202,cR "check_rule" 440 95 1 197 (.ref 199) (.ref 200) (.ref 201) 445 446 )::
 (nat_lit 203,fN "check_rule" J3 mVA 202)::
 (nat_lit 209,cR "check_symbol" 448 103 1 204 (.ref 206) (.ref 207) (.ref 208) 452 453 )::
 (nat_lit 210,fN "check_symbol" jX mVA 209)::
 (nat_lit 214,cR "is_symbol" 455 106 1 211 .none .none (.ref 213) 458 459 )::
 (nat_lit 215,fN "is_symbol" JC mVA 214)::
 (nat_lit 221,cR "is_letter" 461 108 1 216 (.ref 218) (.ref 219) (.ref 220) 465 466 )::
 (nat_lit 222,fN "is_letter" zK mVA 221)::
 (nat_lit 228,cR "check_start" 468 110 2 223 (.ref 225) (.ref 226) (.ref 227) 473 474 )::
 (nat_lit 229,fN "check_start" Jo mVA 228)::
 (nat_lit 235,cR "check_sums" 476 113 2 230 (.ref 232) (.ref 233) (.ref 234) 484 485 )::
 (nat_lit 236,fN "check_sums" JY mVA 235)::
 (nat_lit 242,cR "heads_of" 487 121 1 237 (.ref 239) (.ref 240) (.ref 241) 493 494 )::
 (nat_lit 243,fN "heads_of" Zn mVA 242)::
 (nat_lit 247,cR "live_of" 496 127 2 244 .none .none (.ref 246) 499 500 )::
 (nat_lit 248,fN "live_of" Zj mVA 247)::
 (nat_lit 252,cR "has_live_body" 502 135 4 249 .none .none (.ref 251) 505 506 )::
 (nat_lit 253,fN "has_live_body" QY mVA 252)::
 (nat_lit 257,cR "is_live_body" 508 137 3 254 .none .none (.ref 256) 511 512 )::
 (nat_lit 258,fN "is_live_body" jj mVA 257)::
 (nat_lit 262,cR "stretches" 516 140 1 259 .none .none (.ref 261) 519 520 )::
 (nat_lit 263,fN "stretches" JO (.str "scoreflow.rows" 514) 262)::
 (nat_lit 267,cR "solved_rows" 524 146 2 264 .none .none (.ref 266) 527 528 )::
 (nat_lit 268,fN "solved_rows" QE mVG 267)::
 (nat_lit 272,cR "without_itself" 530 152 2 269 .none .none (.ref 271) 533 534 )::
 (nat_lit 273,fN "without_itself" QB mVG 272)::
 (nat_lit 277,cR "put_in" 536 159 3 274 .none .none (.ref 276) 539 540 )::
 (nat_lit 278,fN "put_in" vb mVG 277)::
 (nat_lit 284,cR "cleared" 542 164 2 279 (.ref 281) (.ref 282) (.ref 283) 547 548 )::
 (nat_lit 285,fN "cleared" Z5 mVG 284)::
 (nat_lit 296,cQ "__init__" "Sums.__init__" 564 169 3 293 .none .none (.ref 295) 567 568 )::
 (nat_lit 297,fO "__init__" "Sums.__init__" Qu mVD 296)::
 (nat_lit 303,cQ "within" "Sums.within" 570 182 4 298 (.ref 300) (.ref 301) (.ref 302) 577 578 )::
 (nat_lit 304,fO "within" "Sums.within" Jp mVD 303)::
 (nat_lit 310,cQ "whole" "Sums.whole" 580 185 1 305 (.ref 307) (.ref 308) (.ref 309) 584 585 )::
 (nat_lit 311,fO "whole" "Sums.whole" J6 mVD 310)::
 (nat_lit 315,cQ "settle" "Sums.settle" 587 188 3 312 .none .none (.ref 314) 590 591 )::
 (nat_lit 316,fO "settle" "Sums.settle" jP mVD 315)::
 (nat_lit 322,cQ "ends_at" "Sums.ends_at" 593 195 3 317 (.ref 319) (.ref 320) (.ref 321) 602 603 )::
 (nat_lit 323,fO "ends_at" "Sums.ends_at" jY mVD 322)::
 (nat_lit 329,cQ "worth" "Sums.worth" 605 203 4 324 (.ref 326) (.ref 327) (.ref 328) 612 613 )::
 (nat_lit 330,fO "worth" "Sums.worth" J5 mVD 329)::
 (nat_lit 336,cQ "worth_of_body" "Sums.worth_of_body" 615 208 4 331 (.ref 333) (.ref 334) (.ref 335) 622 623 )::
 (nat_lit 337,fO "worth_of_body" "Sums.worth_of_body" Qh mVD 336)::
 (nat_lit 343,cQ "sum_of_partings" "Sums.sum_of_partings" 625 215 4 338 (.ref 340) (.ref 341) (.ref 342) 635 636 )::
 (nat_lit 344,fO "sum_of_partings" "Sums.sum_of_partings" qk mVD 343)::
 (nat_lit 346,dO #[en P "__module__" 559 mVD,en P "__firstlineno__" 563 (.int 167 562),S6 P "__init__" 569 297,S6 P "within" 579 304,S6 P "whole" 586 311,S6 P "settle" 592 316,S6 P "ends_at" 604 323,S6 P "worth" 614 330,S6 P "worth_of_body" 624 337,S6 P "sum_of_partings" 637 344,S6 P "__static_attributes__" 645 345,S6 P "__dict__" 647 348,S6 P "__weakref__" 649 349,en P "__doc__" 650 .none] 4)::
 (nat_lit 347,{cls:=.type "type", data:=.cls {name:="Sums", bases:=[.type "object"],mro:=[.ref 347,.type "object"],ns:=346,qualname:="Sums" },slots:=#[.none,.none,.some (.str "Sums" 552),.some (.str "Sums" 560),.some (.builtin "object.__new__"),.some (.bool Bool.true)]})::
 (nat_lit 348,{cls:=.type "getset_descriptor", data:=.fields #[.str "__dict__" 646,.ref 347,.builtin "function.__dict__", .builtin "function.__dict__#set"]})::
 (nat_lit 349,{cls:=.type "getset_descriptor", data:=.fields #[.str "__weakref__" 648,.ref 347,.builtin "ExceptionGroup.__weakref__", .none]})::
 (nat_lit 355,cR "live_rules" 653 222 1 352 .none .none (.ref 354) 656 657 )::
 (nat_lit 356,fN "live_rules" Je mVD 355)::
 (nat_lit 362,cR "is_step" 659 226 2 357 (.ref 359) (.ref 360) (.ref 361) 664 665 )::
 (nat_lit 363,fN "is_step" Z9 mVD 362)::
 (nat_lit 367,cR "chains_of" 667 228 2 364 .none .none (.ref 366) 670 671 )::
 (nat_lit 368,fN "chains_of" j8 mVD 367)::
 (nat_lit 381,cQ "__init__" "Parts.__init__" 687 244 3 376 (.ref 378) (.ref 379) (.ref 380) 696 697 )::
 (nat_lit 382,fO "__init__" "Parts.__init__" jW mVE 381)::
 (nat_lit 388,cQ "beyond" "Parts.beyond" 699 260 4 383 (.ref 385) (.ref 386) (.ref 387) 706 707 )::
 (nat_lit 389,fO "beyond" "Parts.beyond" JQ mVE 388)::
 (nat_lit 395,cQ "part" "Parts.part" 709 263 4 390 (.ref 392) (.ref 393) (.ref 394) 716 717 )::
 (nat_lit 396,fO "part" "Parts.part" cm mVE 395)::
 (nat_lit 400,cQ "uses" "Parts.uses" 719 266 2 397 .none .none (.ref 399) 722 723 )::
 (nat_lit 401,fO "uses" "Parts.uses" J8 mVE 400)::
 (nat_lit 407,cQ "hand" "Parts.hand" 725 272 5 402 (.ref 404) (.ref 405) (.ref 406) 733 734 )::
 (nat_lit 408,fO "hand" "Parts.hand" zP mVE 407)::
 (nat_lit 412,cQ "hand_to_heads" "Parts.hand_to_heads" 736 276 3 409 .none .none (.ref 411) 739 740 )::
 (nat_lit 413,fO "hand_to_heads" "Parts.hand_to_heads" qB mVE 412)::
 (nat_lit 419,cQ "hand_to_bodies" "Parts.hand_to_bodies" 742 285 3 414 (.ref 416) (.ref 417) (.ref 418) 749 750 )::
 (nat_lit 420,fO "hand_to_bodies" "Parts.hand_to_bodies" Qp mVE 419)::
 (nat_lit 424,cQ "hand_within_bodies" "Parts.hand_within_bodies" 752 289 3 421 .none .none (.ref 423) 755 756 )::
 (nat_lit 425,fO "hand_within_bodies" "Parts.hand_within_bodies" YN mVE 424)::
 (nat_lit 427,dO #[en P "__module__" 682 mVE,en P "__firstlineno__" 686 (.int 242 685),S6 P "__init__" 698 382,S6 P "beyond" 708 389,S6 P "part" 718 396,S6 P "uses" 724 401,S6 P "hand" 735 408,S6 P "hand_to_heads" 741 413,S6 P "hand_to_bodies" 751 420,S6 P "hand_within_bodies" 757 425,S6 P "__static_attributes__" 763 426,S6 P "__dict__" 765 429,S6 P "__weakref__" 767 430,en P "__doc__" 768 .none] 4)::
 (nat_lit 428,{cls:=.type "type", data:=.cls {name:="Parts", bases:=[.type "object"],mro:=[.ref 428,.type "object"],ns:=427,qualname:="Parts" },slots:=#[.none,.none,.some (.str "Parts" 675),.some (.str "Parts" 683),.some (.builtin "object.__new__"),.some (.bool Bool.true)]})::
 (nat_lit 429,{cls:=.type "getset_descriptor", data:=.fields #[.str "__dict__" 764,.ref 428,.builtin "function.__dict__", .builtin "function.__dict__#set"]})::
 (nat_lit 430,{cls:=.type "getset_descriptor", data:=.fields #[.str "__weakref__" 766,.ref 428,.builtin "ExceptionGroup.__weakref__", .none]})::
 (nat_lit 438,cR "learnt" 773 297 2 433 (.ref 435) (.ref 436) (.ref 437) 784 785 )::
 (nat_lit 439,fN "learnt" kR (.str "scoreflow.learning" 771) 438)::
 (nat_lit 443,cR "counts_of" 787 308 2 440 .none .none (.ref 442) 790 791 )::
 (nat_lit 444,fN "counts_of" JK (.str "scoreflow.learning" 771) 443)::
 (nat_lit 450,cR "sums_by_head" 793 314 2 445 (.ref 447) (.ref 448) (.ref 449) 801 802 )::
 (nat_lit 451,fN "sums_by_head" JD (.str "scoreflow.learning" 771) 450)::
 (nat_lit 457,cR "_law_cell_at" 806 320 2 452 (.ref 454) (.ref 455) (.ref 456) 811 812 )::
 (nat_lit 458,fN "_law_cell_at" zp mVB 457)::
 (nat_lit 464,cR "_law_dice" 814 324 1 459 (.ref 461) (.ref 462) (.ref 463) 818 819 )::
 (nat_lit 465,fN "_law_dice" vg mVB 464)::
 (nat_lit 471,cR "_law_roll" 821 326 2 466 (.ref 468) (.ref 469) (.ref 470) 826 827 )::
 (nat_lit 472,fN "_law_roll" va mVB 471)::
 (nat_lit 478,cR "_law_symbols" 829 329 2 473 (.ref 475) (.ref 476) (.ref 477) 842 843 )::
 (nat_lit 479,fN "_law_symbols" Jm mVB 478)::
 (nat_lit 485,cR "_law_share" 845 343 2 480 (.ref 482) (.ref 483) (.ref 484) 853 854 )::
 (nat_lit 486,fN "_law_share" zG mVB 485)::
 (nat_lit 492,cR "_law_added" 856 351 2 487 (.ref 489) (.ref 490) (.ref 491) 861 862 )::
 (nat_lit 493,fN "_law_added" ZF mVB 492)::
 (nat_lit 499,cR "_law_timed" 864 353 2 494 (.ref 496) (.ref 497) (.ref 498) 869 870 )::
 (nat_lit 500,fN "_law_timed" ZA mVB 499)::
 (nat_lit 506,cR "_law_bodies" 872 355 4 501 (.ref 503) (.ref 504) (.ref 505) 884 885 )::
 (nat_lit 507,fN "_law_bodies" zV mVB 506)::
 (nat_lit 511,cR "_law_rules" 887 367 3 508 .none .none (.ref 510) 890 891 )::
 (nat_lit 512,fN "_law_rules" zH mVB 511)::
 (nat_lit 518,cR "_law_made" 893 375 3 513 (.ref 515) (.ref 516) (.ref 517) 903 904 )::
 (nat_lit 519,fN "_law_made" vd mVB 518)::
 (nat_lit 523,cR "_law_row" 906 381 3 520 .none .none (.ref 522) 909 910 )::
 (nat_lit 524,fN "_law_row" Z6 mVB 523)::
 (nat_lit 530,cR "_law_counted" 912 384 2 525 (.ref 527) (.ref 528) (.ref 529) 920 921 )::
 (nat_lit 531,fN "_law_counted" zr mVB 530)::
 (nat_lit 535,cR "_law_counts" 923 392 3 532 .none .none (.ref 534) 926 927 )::
 (nat_lit 536,fN "_law_counts" J0 mVB 535)::
 (nat_lit 542,cR "_law_due" 929 399 2 537 (.ref 539) (.ref 540) (.ref 541) 939 940 )::
 (nat_lit 543,fN "_law_due" Vg mVB 542)::
 (nat_lit 549,cR "law" 942 412 1 544 (.ref 546) (.ref 547) (.ref 548) 958 959 )::
 (nat_lit 550,fN "law" d8 mVB 549)::[]
def KA:List Addr:=nat_lit 2::nat_lit 3::nat_lit 20::nat_lit 21::nat_lit 30::nat_lit 31::nat_lit 32::nat_lit 43::nat_lit 44::nat_lit 55::nat_lit 56::nat_lit 67::nat_lit 68::nat_lit 79::nat_lit 80::nat_lit 83::nat_lit 84::nat_lit 90::nat_lit 91::nat_lit 97::nat_lit 98::nat_lit 104::nat_lit 105::nat_lit 111::nat_lit 112::nat_lit 118::nat_lit 119::nat_lit 125::nat_lit 126::nat_lit 132::nat_lit 133::nat_lit 139::nat_lit 140::nat_lit 153::nat_lit 154::nat_lit 160::nat_lit 161::nat_lit 167::nat_lit 168::nat_lit 174::nat_lit 175::nat_lit 181::nat_lit 182::nat_lit 184::nat_lit 185::nat_lit 186::nat_lit 187::nat_lit 195::nat_lit 196::nat_lit 202::nat_lit 203::nat_lit 209::nat_lit 210::nat_lit 214::nat_lit 215::nat_lit 221::nat_lit 222::nat_lit 228::nat_lit 229::nat_lit 235::nat_lit 236::nat_lit 242::nat_lit 243::nat_lit 247::nat_lit 248::nat_lit 252::nat_lit 253::nat_lit 257::nat_lit 258::nat_lit 262::nat_lit 263::nat_lit 267::nat_lit 268::nat_lit 272::nat_lit 273::nat_lit 277::nat_lit 278::nat_lit 284::nat_lit 285::nat_lit 296::nat_lit 297::nat_lit 303::nat_lit 304::nat_lit 310::nat_lit 311::nat_lit 315::nat_lit 316::nat_lit 322::nat_lit 323::nat_lit 329::nat_lit 330::nat_lit 336::nat_lit 337::nat_lit 343::nat_lit 344::nat_lit 346::nat_lit 347::nat_lit 348::nat_lit 349::nat_lit 355::nat_lit 356::nat_lit 362::nat_lit 363::nat_lit 367::nat_lit 368::nat_lit 381::nat_lit 382::nat_lit 388::nat_lit 389::nat_lit 395::nat_lit 396::nat_lit 400::nat_lit 401::nat_lit 407::nat_lit 408::nat_lit 412::nat_lit 413::nat_lit 419::nat_lit 420::nat_lit 424::nat_lit 425::nat_lit 427::nat_lit 428::nat_lit 429::nat_lit 430::nat_lit 438::nat_lit 439::nat_lit 443::nat_lit 444::nat_lit 450::nat_lit 451::nat_lit 457::nat_lit 458::nat_lit 464::nat_lit 465::nat_lit 471::nat_lit 472::nat_lit 478::nat_lit 479::nat_lit 485::nat_lit 486::nat_lit 492::nat_lit 493::nat_lit 499::nat_lit 500::nat_lit 506::nat_lit 507::nat_lit 511::nat_lit 512::nat_lit 518::nat_lit 519::nat_lit 523::nat_lit 524::nat_lit 530::nat_lit 531::nat_lit 535::nat_lit 536::nat_lit 542::nat_lit 543::nat_lit 549::nat_lit 550::[]
theorem KE:∀ P,KA=(KP P).map (·.1):=fun _=>by kernel_rfl
set_option maxHeartbeats 0 in
theorem HX:PySem.Challenge.rw_scoreflow_k18_counts_shared_out.wellSaid=true:=by kernel_rfl
def iq:?A6:={PySem.Challenge.pw_scoreflow_k18_counts_shared_out with main:={PySem.Challenge.pw_scoreflow_k18_counts_shared_out.main with body:=[top 0,top 2,top 3,top 4,top 5,top 6,top 8,top 9,top 10,top 11,top 12,top 13,top 14,top 15,top 16,top 17,top 19,top 20,top 21,top 22,top 23,top 24,top 25,top 26,top 27,top 28,top 29,top 30,top 31,top 32,top 33,top 35,top 37,top 38,top 39,top 40,top 42,top 43,top 44,top 45,top 47,top 49,top 50,top 51,top 53,top 54,top 55,top 56,top 57,top 58,top 59,top 60,top 61,top 62,top 63,top 64,top 65,top 66,top 67]}}
abbrev pr:?A6:=PySem.Challenge.pw_scoreflow_k18_counts_shared_out
def tp:?Aw:=W.behindTheImports pr
def ev:Env:={scope:=pr.main.scope,locals:=mainNs,globals:=mainNs,cells:=[],code:=.ref 13,frame:=some 14}
def fr0 (n q:Str)(s:Stmt):Obj:={cls:=?An,data:=.func {name:=n,qualname:=q,params:=L2.Ju s,body:=.stmts (L2.qj s),scope:=L2.yo s,globals:=0,closure:=[],defaults:=?An,kwdefaults:=?An}}
def hA (P:?CZ):Heap:={objs:=⟨W.boot_o_0 P::
 W.boot_o_1 P::
 W.boot_o_2 P::
 W.boot_o_3 P::
 W.boot_o_4 P::
 W.boot_o_5 P::
 W.boot_o_6 P::
 W.boot_o_7 P::
 W.boot_o_8 P::
 W.boot_o_9 P::
 W.boot_o_10 P::
 {cls:=?zX, data:=.seq #[]}::
 {cls:=?An,data:=.fields #[]}::
 cO "<module>" "<module>" 182 183 184 1 0 0 0 0 11 false 181 12 .none .none .none .none 185 186  ::
 {cls:=.type "frame", slots:=#[.some (.ref 13),.some (.ref 3),.some (.ref 3),.none,.some (.str "__main__" 164),.none,.some (.ref 0)]}::[]⟩}
def kq (P:?CZ)(a:Addr):Obj:=((KP P).lookup a).getD {cls:=?An}
def sT (P:?CZ):List Obj:=W.boot_o_0 P::
 W.boot_o_1 P::
 W.boot_o_2 P::
 dO #[en P "__name__" 165 mVE,en P "__doc__" 166 .none,en P "__package__" 167 .none,en P "__loader__" 168 (.builtin "__main__.__loader__#opaque"),en P "__spec__" 169 .none,S6 P "__annotations__" 170 6,S6 P "__builtins__" 171 4,en P "__file__" 173 (.str "/claim/cut.py" 172),en P "__cached__" 174 .none,S6 P "_wall" 193 21,S6 P "ScoreError" 213 31,S6 P "NoShare" 229 44,S6 P "NoEnd" 245 56,S6 P "NoGrammar" 261 68,S6 P "NoTree" 277 80,S6 P "NOUGHT" 282 83,S6 P "ONE" 285 84,S6 P "common_divisor" 294 91,S6 P "share" 303 98,S6 P "added" 314 105,S6 P "lessened" 322 112,S6 P "timed" 332 119,S6 P "parted" 340 126,S6 P "sum_of_products" 353 133,S6 P "is_less" 361 140,en P "MOST_RULES" 365 (.int 30 364),en P "MOST_SYMBOLS" 367 (.int 4 366),en P "MOST_LETTERS" 369 (.int 8 368),S6 P "Grammar" 430 185,S6 P "check_rules" 439 196,S6 P "check_rule" 447 203,S6 P "check_symbol" 454 210,S6 P "is_symbol" 460 215,S6 P "is_letter" 467 222,S6 P "check_start" 475 229,S6 P "check_sums" 486 236,S6 P "heads_of" 495 243,S6 P "live_of" 501 248,S6 P "has_live_body" 507 253,S6 P "is_live_body" 513 258,S6 P "stretches" 521 263,S6 P "solved_rows" 529 268,S6 P "without_itself" 535 273,S6 P "put_in" 541 278,S6 P "cleared" 549 285,S6 P "Sums" 652 347,S6 P "live_rules" 658 356,S6 P "is_step" 666 363,S6 P "chains_of" 672 368] 49::
 W.boot_o_4 P::
 W.boot_o_5 P::
 W.boot_o_6 P::
 W.boot_o_7 P::
 W.boot_o_8 P::
 W.boot_o_9 P::
 W.boot_o_10 P::
 tO #[]::
 {cls:=?An,data:=.fields #[.int 1 0,.int 0 0,.ref 20,.int 5 0,.int 0 0,.ref 27,.int 7 0,.int 0 0,.ref 40,.int 9 0,.int 0 0,.ref 52,.int 11 0,.int 0 0,.ref 64,.int 13 0,.int 0 0,.ref 76,.int 18 0,.int 0 0,.ref 90,.int 24 0,.int 0 0,.ref 97,.int 31 0,.int 0 0,.ref 104,.int 36 0,.int 0 0,.ref 111,.int 40 0,.int 0 0,.ref 118,.int 44 0,.int 0 0,.ref 125,.int 48 0,.int 0 0,.ref 132,.int 58 0,.int 0 0,.ref 139,.int 64 0,.int 0 0,.ref 146,.int 86 0,.int 0 0,.ref 195,.int 95 0,.int 0 0,.ref 202,.int 103 0,.int 0 0,.ref 209,.int 106 0,.int 0 0,.ref 214,.int 108 0,.int 0 0,.ref 221,.int 110 0,.int 0 0,.ref 228,.int 113 0,.int 0 0,.ref 235,.int 121 0,.int 0 0,.ref 242,.int 127 0,.int 0 0,.ref 247,.int 135 0,.int 0 0,.ref 252,.int 137 0,.int 0 0,.ref 257,.int 140 0,.int 0 0,.ref 262,.int 146 0,.int 0 0,.ref 267,.int 152 0,.int 0 0,.ref 272,.int 159 0,.int 0 0,.ref 277,.int 164 0,.int 0 0,.ref 284,.int 167 0,.int 0 0,.ref 291,.int 222 0,.int 0 0,.ref 355,.int 226 0,.int 0 0,.ref 362,.int 228 0,.int 0 0,.ref 367]}::
 cO "<module>" "<module>" 182 183 184 1 0 0 0 0 11 false 181 12 .none .none .none .none 185 186::
 mO 13 3 3 (.str "__main__" 164)::
 tO #[]::
 nO::
 tO #[.str "k" 190]::
 tO #[]::
 fr0 ("_wall") ("_wall") Av::
 kq P 20::
 kq P 21::
 tO #[.type "ValueError"]::
 vL "type.__prepare__" ?qW::
 dO #[en P "__module__" 203 mVC,en P "__qualname__" 205 (.str "ScoreError" 204),en P "__firstlineno__" 207 (.int 5 206),S6 P "__static_attributes__" 208 29] 4::
 tO #[]::
 nO::
 cO "ScoreError" "ScoreError" 198 199 200 5 0 0 0 0 25 false 181 26 .none .none .none .none 201 202::
 mO 27 3 24 mVC::
 tO #[]::
 kq P 30::
 kq P 31::
 kq P 32::
 uO 31::
 vL "object.__init_subclass__" (.ref 31)::
 tO #[.ref 31]::
 vL "type.__prepare__" ?qW::
 dO #[en P "__module__" 221 mVC,en P "__qualname__" 223 (.str "NoShare" 222),en P "__firstlineno__" 225 (.int 7 224),S6 P "__static_attributes__" 226 42] 4::
 tO #[]::
 nO::
 cO "NoShare" "NoShare" 216 217 218 7 0 0 0 0 38 false 181 39 .none .none .none .none 219 220::
 mO 40 3 37 mVC::
 tO #[]::
 kq P 43::
 kq P 44::
 uO 44::
 vL "object.__init_subclass__" (.ref 44)::
 tO #[.ref 31]::
 vL "type.__prepare__" ?qW::
 dO #[en P "__module__" 237 mVC,en P "__qualname__" 239 (.str "NoEnd" 238),en P "__firstlineno__" 241 (.int 9 240),S6 P "__static_attributes__" 242 54] 4::
 tO #[]::
 nO::
 cO "NoEnd" "NoEnd" 232 233 234 9 0 0 0 0 50 false 181 51 .none .none .none .none 235 236::
 mO 52 3 49 mVC::
 tO #[]::
 kq P 55::
 kq P 56::
 uO 56::
 vL "object.__init_subclass__" (.ref 56)::
 tO #[.ref 31]::
 vL "type.__prepare__" ?qW::
 dO #[en P "__module__" 253 mVC,en P "__qualname__" 255 (.str "NoGrammar" 254),en P "__firstlineno__" 257 (.int 11 256),S6 P "__static_attributes__" 258 66] 4::
 tO #[]::
 nO::
 cO "NoGrammar" "NoGrammar" 248 249 250 11 0 0 0 0 62 false 181 63 .none .none .none .none 251 252::
 mO 64 3 61 mVC::
 tO #[]::
 kq P 67::
 kq P 68::
 uO 68::
 vL "object.__init_subclass__" (.ref 68)::
 tO #[.ref 31]::
 vL "type.__prepare__" ?qW::
 dO #[en P "__module__" 269 mVC,en P "__qualname__" 271 (.str "NoTree" 270),en P "__firstlineno__" 273 (.int 13 272),S6 P "__static_attributes__" 274 78] 4::
 tO #[]::
 nO::
 cO "NoTree" "NoTree" 264 265 266 13 0 0 0 0 74 false 181 75 .none .none .none .none 267 268::
 mO 76 3 73 mVC::
 tO #[]::
 kq P 79::
 kq P 80::
 uO 80::
 vL "object.__init_subclass__" (.ref 80)::
 kq P 83::
 kq P 84::
 tO #[]::
 nO::
 tO #[.str "one" 289,.str "other" 290,.str "rest" 291]::
 tO #[]::
 fr0 ("common_divisor") ("common_divisor") jf::
 kq P 90::
 kq P 91::
 tO #[]::
 nO::
 tO #[.str "top" 298,.str "bottom" 299,.str "divisor" 300]::
 tO #[]::
 fr0 ("share") ("share") VP::
 kq P 97::
 kq P 98::
 tO #[]::
 nO::
 tO #[.str "one" 307,.str "other" 308,.str "divisor" 309,.str "top" 310,.str "left" 311]::
 tO #[]::
 fr0 ("added") ("added") Vw::
 kq P 104::
 kq P 105::
 tO #[]::
 nO::
 tO #[.str "one" 318,.str "other" 319]::
 tO #[]::
 fr0 ("lessened") ("lessened") Zi::
 kq P 111::
 kq P 112::
 tO #[]::
 nO::
 tO #[.str "one" 326,.str "other" 327,.str "first" 328,.str "second" 329]::
 tO #[]::
 fr0 ("timed") ("timed") Kr::
 kq P 118::
 kq P 119::
 tO #[]::
 nO::
 tO #[.str "one" 336,.str "other" 337]::
 tO #[]::
 fr0 ("parted") ("parted") Ve::
 kq P 125::
 kq P 126::
 tO #[]::
 nO::
 tO #[.str "pairs" 344,.str "top" 345,.str "bottom" 346,.str "one" 347,.str "other" 348,.str "below" 349,.str "divisor" 350]::
 tO #[]::
 fr0 ("sum_of_products") ("sum_of_products") Qr::
 kq P 132::
 kq P 133::
 tO #[]::
 nO::
 tO #[.str "one" 357,.str "other" 358]::
 tO #[]::
 fr0 ("is_less") ("is_less") Z7::
 kq P 139::
 kq P 140::
 tO #[]::
 vL "type.__prepare__" ?qW::
 dO #[en P "__module__" 377 mVA,en P "__qualname__" 379 (.str "Grammar" 378),en P "__firstlineno__" 381 (.int 64 380),S6 P "__init__" 390 154,S6 P "start" 397 161,S6 P "rules" 404 168,S6 P "heads" 411 175,S6 P "live" 418 182,S6 P "__static_attributes__" 423 183] 9::
 tO #[]::
 {cls:=?An,data:=.fields #[.int 66 0,.int 4 0,.ref 153,.int 75 0,.int 4 0,.ref 160,.int 78 0,.int 4 0,.ref 167,.int 81 0,.int 4 0,.ref 174,.int 84 0,.int 4 0,.ref 181]}::
 cO "Grammar" "Grammar" 372 373 374 64 0 0 0 0 144 false 181 145 .none .none .none .none 375 376::
 mO 146 3 143 mVA::
 tO #[]::
 nO::
 tO #[.str "self" 385,.str "start" 386,.str "rules" 387]::
 tO #[]::
 fr0 ("__init__") ("Grammar.__init__") QA::
 kq P 153::
 kq P 154::
 tO #[]::
 nO::
 tO #[.str "self" 394]::
 tO #[]::
 fr0 ("start") ("Grammar.start") jz::
 kq P 160::
 kq P 161::
 tO #[]::
 nO::
 tO #[.str "self" 401]::
 tO #[]::
 fr0 ("rules") ("Grammar.rules") jx::
 kq P 167::
 kq P 168::
 tO #[]::
 nO::
 tO #[.str "self" 408]::
 tO #[]::
 fr0 ("heads") ("Grammar.heads") jy::
 kq P 174::
 kq P 175::
 tO #[]::
 nO::
 tO #[.str "self" 415]::
 tO #[]::
 fr0 ("live") ("Grammar.live") jV::
 kq P 181::
 kq P 182::
 tO #[.str "first" 419,.str "kept_heads" 420,.str "kept_live" 421,.str "kept_rules" 422]::
 kq P 184::
 kq P 185::
 kq P 186::
 kq P 187::
 uO 185::
 vL "object.__init_subclass__" (.ref 185)::
 tO #[]::
 nO::
 tO #[.str "rules" 434,.str "seen" 435,.str "rule" 436]::
 tO #[]::
 fr0 ("check_rules") ("check_rules") Jq::
 kq P 195::
 kq P 196::
 tO #[]::
 nO::
 tO #[.str "rule" 443,.str "symbol" 444]::
 tO #[]::
 fr0 ("check_rule") ("check_rule") J3::
 kq P 202::
 kq P 203::
 tO #[]::
 nO::
 tO #[.str "text" 451]::
 tO #[]::
 fr0 ("check_symbol") ("check_symbol") jX::
 kq P 209::
 kq P 210::
 tO #[]::
 nO::
 fr0 ("is_symbol") ("is_symbol") JC::
 kq P 214::
 kq P 215::
 tO #[]::
 nO::
 tO #[.str "sign" 464]::
 tO #[]::
 fr0 ("is_letter") ("is_letter") zK::
 kq P 221::
 kq P 222::
 tO #[]::
 nO::
 tO #[.str "start" 471,.str "heads" 472]::
 tO #[]::
 fr0 ("check_start") ("check_start") Jo::
 kq P 228::
 kq P 229::
 tO #[]::
 nO::
 tO #[.str "heads" 479,.str "rules" 480,.str "head" 481,.str "total" 482,.str "rule" 483]::
 tO #[]::
 fr0 ("check_sums") ("check_sums") JY::
 kq P 235::
 kq P 236::
 tO #[]::
 nO::
 tO #[.str "rules" 490,.str "heads" 491,.str "rule" 492]::
 tO #[]::
 fr0 ("heads_of") ("heads_of") Zn::
 kq P 242::
 kq P 243::
 tO #[]::
 nO::
 fr0 ("live_of") ("live_of") Zj::
 kq P 247::
 kq P 248::
 tO #[]::
 nO::
 fr0 ("has_live_body") ("has_live_body") QY::
 kq P 252::
 kq P 253::
 tO #[]::
 nO::
 fr0 ("is_live_body") ("is_live_body") jj::
 kq P 257::
 kq P 258::
 tO #[]::
 nO::
 fr0 ("stretches") ("stretches") JO::
 kq P 262::
 kq P 263::
 tO #[]::
 nO::
 fr0 ("solved_rows") ("solved_rows") QE::
 kq P 267::
 kq P 268::
 tO #[]::
 nO::
 fr0 ("without_itself") ("without_itself") QB::
 kq P 272::
 kq P 273::
 tO #[]::
 nO::
 fr0 ("put_in") ("put_in") vb::
 kq P 277::
 kq P 278::
 tO #[]::
 nO::
 tO #[.str "row" 545,.str "k" 546]::
 tO #[]::
 fr0 ("cleared") ("cleared") Z5::
 kq P 284::
 kq P 285::
 tO #[]::
 vL "type.__prepare__" ?qW::
 dO #[en P "__module__" 559 mVD,en P "__qualname__" 561 (.str "Sums" 560),en P "__firstlineno__" 563 (.int 167 562),S6 P "__init__" 569 297,S6 P "within" 579 304,S6 P "whole" 586 311,S6 P "settle" 592 316,S6 P "ends_at" 604 323,S6 P "worth" 614 330,S6 P "worth_of_body" 624 337,S6 P "sum_of_partings" 637 344,S6 P "__static_attributes__" 645 345] 12::
 tO #[]::
 {cls:=?An,data:=.fields #[.int 169 0,.int 4 0,.ref 296,.int 182 0,.int 4 0,.ref 303,.int 185 0,.int 4 0,.ref 310,.int 188 0,.int 4 0,.ref 315,.int 195 0,.int 4 0,.ref 322,.int 203 0,.int 4 0,.ref 329,.int 208 0,.int 4 0,.ref 336,.int 215 0,.int 4 0,.ref 343]}::
 cO "Sums" "Sums" 554 555 556 167 0 0 0 0 289 false 181 290 .none .none .none .none 557 558::
 mO 291 3 288 mVD::
 tO #[]::
 nO::
 fr0 ("__init__") ("Sums.__init__") Qu::
 kq P 296::
 kq P 297::
 tO #[]::
 nO::
 tO #[.str "self" 573,.str "head" 574,.str "i" 575,.str "j" 576]::
 tO #[]::
 fr0 ("within") ("Sums.within") Jp::
 kq P 303::
 kq P 304::
 tO #[]::
 nO::
 tO #[.str "self" 583]::
 tO #[]::
 fr0 ("whole") ("Sums.whole") J6::
 kq P 310::
 kq P 311::
 tO #[]::
 nO::
 fr0 ("settle") ("Sums.settle") jP::
 kq P 315::
 kq P 316::
 tO #[]::
 nO::
 tO #[.str "self" 596,.str "i" 597,.str "j" 598,.str "ends" 599,.str "rule" 600,.str "worth" 601]::
 tO #[]::
 fr0 ("ends_at") ("Sums.ends_at") jY::
 kq P 322::
 kq P 323::
 tO #[]::
 nO::
 tO #[.str "self" 608,.str "symbol" 609,.str "i" 610,.str "j" 611]::
 tO #[]::
 fr0 ("worth") ("Sums.worth") J5::
 kq P 329::
 kq P 330::
 tO #[]::
 nO::
 tO #[.str "self" 618,.str "body" 619,.str "i" 620,.str "j" 621]::
 tO #[]::
 fr0 ("worth_of_body") ("Sums.worth_of_body") Qh::
 kq P 336::
 kq P 337::
 tO #[]::
 nO::
 tO #[.str "self" 628,.str "body" 629,.str "i" 630,.str "j" 631,.str "pairs" 632,.str "middle" 633,.str "worth" 634]::
 tO #[]::
 fr0 ("sum_of_partings") ("Sums.sum_of_partings") qk::
 kq P 343::
 kq P 344::
 tO #[.str "branches" 638,.str "chains" 639,.str "grammar" 640,.str "known_heads" 641,.str "known_sums" 642,.str "known_worths" 643,.str "row" 644]::
 kq P 346::
 kq P 347::
 kq P 348::
 kq P 349::
 uO 347::
 vL "object.__init_subclass__" (.ref 347)::
 tO #[]::
 nO::
 fr0 ("live_rules") ("live_rules") Je::
 kq P 355::
 kq P 356::
 tO #[]::
 nO::
 tO #[.str "rule" 662,.str "heads" 663]::
 tO #[]::
 fr0 ("is_step") ("is_step") Z9::
 kq P 362::
 kq P 363::
 tO #[]::
 nO::
 fr0 ("chains_of") ("chains_of") j8::
 kq P 367::
 kq P 368::[]
def mq (P:?CZ)(i n:Nat):List Obj:=((sT P).drop i).take n
def Cb (P:?CZ):Heap:={objs:=⟨mq P 0 3++([dO #[en P "__name__" 165 mVA,en P "__doc__" 166 .none,en P "__package__" 167 .none,en P "__loader__" 168 (.builtin "__main__.__loader__#opaque"),en P "__spec__" 169 .none,S6 P "__annotations__" 170 6,S6 P "__builtins__" 171 4,en P "__file__" 173 (.str "/claim/cut.py" 172),en P "__cached__" 174 .none,S6 P "_wall" 193 21,S6 P "ScoreError" 213 31,S6 P "NoShare" 229 44,S6 P "NoEnd" 245 56,S6 P "NoGrammar" 261 68,S6 P "NoTree" 277 80,S6 P "NOUGHT" 282 83,S6 P "ONE" 285 84,S6 P "common_divisor" 294 91,S6 P "share" 303 98,S6 P "added" 314 105,S6 P "lessened" 322 112,S6 P "timed" 332 119,S6 P "parted" 340 126,S6 P "sum_of_products" 353 133,S6 P "is_less" 361 140,en P "MOST_RULES" 365 (.int 30 364),en P "MOST_SYMBOLS" 367 (.int 4 366),en P "MOST_LETTERS" 369 (.int 8 368),S6 P "Grammar" 430 185,S6 P "check_rules" 439 196] 30]++(mq P 4 8++([{cls:=?An,data:=.fields #[.int 1 0,.int 0 0,.ref 20,.int 5 0,.int 0 0,.ref 27,.int 7 0,.int 0 0,.ref 40,.int 9 0,.int 0 0,.ref 52,.int 11 0,.int 0 0,.ref 64,.int 13 0,.int 0 0,.ref 76,.int 18 0,.int 0 0,.ref 90,.int 24 0,.int 0 0,.ref 97,.int 31 0,.int 0 0,.ref 104,.int 36 0,.int 0 0,.ref 111,.int 40 0,.int 0 0,.ref 118,.int 44 0,.int 0 0,.ref 125,.int 48 0,.int 0 0,.ref 132,.int 58 0,.int 0 0,.ref 139,.int 64 0,.int 0 0,.ref 146,.int 86 0,.int 0 0,.ref 195]}]++(mq P 13 184))))⟩}
def Cn (P:?CZ):Heap:={objs:=⟨sT P⟩}
def sA (w:?A5)(os:?DZ):?AI:={heap:=hA w.params,toks:=187,os:=os}
def Ea (w:?A5)(os:?DZ):?AI:={heap:=Cb w.params,toks:=440,os:=os}
def AB (w:?A5)(os:?DZ):?AI:={heap:=Cn w.params,toks:=675,os:=os}
def s0 (w:?A5)(os:?DZ):?AI:={heap:=W.boot_heap w.params,gens:=#[],drawn:=W.boot_drawn,toks:=W.boot_toks,os:=os}
def chk (w:?A5)(s:?AI):?I3:=match W.staticsOk (importedModules pr.main.body) (W.boot_heap w.params) s.heap&&W.namesBound pr s.heap&&W.gensDone s&&W.laidKept (W.boot_heap w.params) s.heap with
 |true=>some s
 |false=>none
abbrev xt (s:?AI):Bool:=W.xlAt iq [] s&&W.recOk [] s
theorem g1 (w:World)(os:OsState):W.topGo treeTable pr w 11 (some (.ref 6)) 12 (s0 w os) (W.topStub pr)=some (sA w os,{cur:=denote treeTable (.body tp ev),code:=.body tp ev,pos:=⟨0,0,0,0⟩,stack:=[W.topFrame ⟨0,0,0,0⟩]}):=by kernel_rfl
theorem g2 (w:World)(os:OsState):W.segRun treeTable pr w 11 (some (.ref 6)) 1 1 (sA w os) (W.blockOf tp ev (.body tp ev) ⟨0,0,0,0⟩ [W.topFrame ⟨0,0,0,0⟩])=some (.next,sA w os,.body tp ev,⟨0,0,0,0⟩):=by kernel_rfl
set_option maxHeartbeats 0 in
theorem g3 (w:World)(os:OsState):W.segRun treeTable pr w 11 (some (.ref 6)) 1 2100 (sA w os) (W.piecesOf (tp.take 24) ev (.body tp ev) ⟨0,0,0,0⟩ [W.topFrame ⟨0,0,0,0⟩])=some (.next,Ea w os,.body tp ev,⟨86,0,94,37⟩):=by kernel_rfl
set_option maxHeartbeats 0 in
theorem g9 (w:World)(os:OsState):W.segRun treeTable pr w 11 (some (.ref 6)) 1 1500 (Ea w os) (W.piecesOf ((tp.drop 24).take 23) ev (.body tp ev) ⟨86,0,94,37⟩ [W.topFrame ⟨0,0,0,0⟩])=some (.next,AB w os,.body tp ev,⟨241,0,241,8⟩):=by kernel_rfl
def mid (w:?A5)(os:?DZ):?I3:=(W.topRun treeTable pr w 11 (some (.ref 6)) 1300 (AB w os) (W.restOf ((tp.drop 24).drop 23) ev (.body tp ev) ⟨241,0,241,8⟩ [W.topFrame ?Hv])).bind (chk w)
abbrev see (s:?AI):=W.openSeen iq [] (importedModules pr.main.body) xt true s
abbrev goo:=W.openGood iq []
set_option maxHeartbeats 0 in
theorem g4 (w:World)(os:OsState):(mid w os).map (fun s=>(W.kHook KP KA KE).obs s)=some ((W.kHook KP KA KE).val w):=by kernel_rfl
set_option maxHeartbeats 0 in
theorem g5 (w:World)(os:OsState):(mid w os).map (fun s=>(see s).1)=some goo.1:=by kernel_rfl
set_option maxHeartbeats 0 in
theorem g8 (w:World)(os:OsState):(mid w os).map (fun s=>(see s).2.1)=some goo.2.1:=by kernel_rfl
set_option maxHeartbeats 0 in
theorem g7 (w:World)(os:OsState):(mid w os).map (fun s=>((see s).2.2.1,(see s).2.2.2.1))=some (goo.2.2.1,goo.2.2.2.1):=by kernel_rfl
set_option maxHeartbeats 0 in
theorem g6 (w:World)(os:OsState):(mid w os).map (fun s=>(see s).2.2.2.2)=some goo.2.2.2.2:=by kernel_rfl
theorem DC (w:?A5)(os:?DZ):W.topFrom treeTable pr w ?jL (s0 w os)=(?MN).bind (chk w):=by kernel_rfl
theorem DN {A B C D E Y:Type}{m:?I3}{f:Shared->A×B×C×D×E}{o:Shared->Y}{v:A×B×C×D×E}{y:Y}(h1:m.map (fun s=>(f s).1)=some v.1)(h2:m.map (fun s=>(f s).2.1)=some v.2.1)(h3:m.map (fun s=>((f s).2.2.1,(f s).2.2.2.1))=some (v.2.2.1,v.2.2.2.1))(h4:m.map (fun s=>(f s).2.2.2.2)=some v.2.2.2.2)(h5:m.map o=some y):m.map (fun s=>(f s,o s))=some (v,y):=by
 cases m with
 |none=>cases h5
 |some s=>
  have h3:=Option.some.inj h3;simp only[Prod.mk.injEq] at h3;exact congrArg some (Prod.ext (Prod.ext ?Fp (Prod.ext ?PH (Prod.ext h3.1 (Prod.ext h3.2 (Option.some.inj h4))))) (Option.some.inj h5))
theorem Fi (w:?A5)(os:?DZ):(?MN).bind (chk w)=mid w os:=by
 have q:=g4 w os;unfold mid at q ⊢;cases hr:W.topRun treeTable pr w 11 (some (.ref 6)) 1300 (AB w os) (W.restOf ((tp.drop 24).drop 23) ev (.body tp ev) ⟨241,0,241,8⟩ [W.topFrame ⟨0,0,0,0⟩]) with
 |none=>rw[hr] at q;cases q
 |some r=>
  have c:=W.piece_app (g9 w os) hr;rw[Q8] at c;have c:=W.piece_app (g3 w os) c;rw[Q8] at c;rw[W.go_top (g1 w os) (W.piece_block (g2 w os) c)]
theorem B6 {A:Type}{f:Shared->A}{x:?AI}{g:Shared->Option Shared}{m:?I3}{y:A}(h:m=some x)(k:(g x).map f=some y):(m.bind g).map f=some y:=by
 subst h;exact k
theorem Dx (w:?A5):∃ os,W.fencedOpening treeTable pr w ?jL=some (s0 w os):=by
 have b:=W.boot_open (p:=pr) (N:=?jL) ?qS ?qS (fun s=>by rfl) w;obtain⟨s,h0,e0⟩:=Yk.mp b;obtain⟨hp,g,d,tk,os⟩:=s;simp only[Prod.mk.injEq] at e0;obtain⟨rfl,rfl,rfl,rfl⟩:=e0;exact⟨os,h0⟩
theorem hl:W.LeftO pr iq [] xt (W.kHook KP KA KE).obs (W.kHook KP KA KE).val ?jL:=by
 intro w;obtain⟨os,h0⟩:=Dx w;unfold W.openEnds;refine B6 h0 ?_;rw[DC,Fi];exact DN (f:=see) (v:=goo) (g5 w os) (g8 w os) (g7 w os) (g6 w os) (g4 w os)
end Law
namespace L2
open PySem PySem.Spec PyProof.Rows
abbrev Key:=Sum Int Str
def D4:Key->Value->Bool
 |.inl k,v=>Value.isInt k v
 |.inr x,v=>Value.isStrOf x v
def IH (w:?A5):Key->Int
 |.inl k=>hashInt k
 |.inr x=>hashStr w x
theorem jK:∀ {k:Key} {v:Value},D4 k v=true->(∃ i t,k=Sum.inl i/\v=Value.int i t)∨(∃ x t,k=Sum.inr x/\v=Value.str x t)
 |.inl i,v,h=>by
  obtain⟨t,e⟩:=Value.isInt_shape (k:=i) (v:=v) h;exact .inl ⟨i,t,rfl,e⟩
 |.inr x,v,h=>by
  obtain⟨t,e⟩:=Value.isStrOf_shape (x:=x) (v:=v) h;exact .inr ⟨x,t,rfl,e⟩
theorem F8 (a b:Int):decide ((Sum.inl a:Key)=Sum.inl b)=(a==b):=by
 by_cases e:a=b
 .subst e;simp
 .have h:¬ (Sum.inl a:Key)=Sum.inl b:=fun q=>e (Sum.inl.inj q);rw[yA h];exact(beq_eq_false_iff_ne.mpr e).symm
theorem EU (a b:Str):decide ((Sum.inr a:Key)=Sum.inr b)=decide (a=b):=by
 by_cases e:a=b
 .subst e;simp
 .have h:¬ (Sum.inr a:Key)=Sum.inr b:=fun q=>e (Sum.inr.inj q);rw[yA h,yA e]
theorem Gs (a:Int)(b:Str):decide ((Sum.inl a:Key)=Sum.inr b)=false:=yA (fun q=>nomatch q)
theorem FA (a:Str)(b:Int):decide ((Sum.inr a:Key)=Sum.inl b)=false:=yA (fun q=>nomatch q)
def QR (prog:?A6)(w:?A5):PySem.KeyKind prog w Key where
 is:=D4
 hash:=IH w
 inj:=fun v a b ha hb=>by
  rcases jK ha with ⟨i,t,rfl,rfl⟩|⟨x,t,rfl,rfl⟩
  .rcases jK hb with ⟨j,u,rfl,e⟩|⟨y,u,rfl,e⟩
   .injection e with e1 _;rw[e1]
   .exact nomatch e
  .rcases jK hb with ⟨j,u,rfl,e⟩|⟨y,u,rfl,e⟩
   .exact nomatch e
   .injection e with e1 _;rw[e1]
 byValue:=fun k v h=>by
  rcases jK h with ⟨i,t,rfl,rfl⟩|⟨x,t,rfl,rfl⟩ <;> rfl
 pyHash:=fun hv h=>by
  rcases jK hv with ⟨i,t,rfl,rfl⟩|⟨x,t,rfl,rfl⟩
  .exact wpAny_pyHash_int h
  .exact wpAny_pyHash_str h
 eqBool:=fun hu hv h=>by
  rcases jK hu with ⟨i,t,rfl,rfl⟩|⟨x,t,rfl,rfl⟩
  .rcases jK hv with ⟨j,u,rfl,rfl⟩|⟨y,u,rfl,rfl⟩
   .rw[F8] at h;exact wpAny_eqBool_int h
   .rw[Gs] at h;exact SeqAt.EqAt.int_str i t y u _ _ _ _ h
  .rcases jK hv with ⟨j,u,rfl,rfl⟩|⟨y,u,rfl,rfl⟩
   .rw[FA] at h;exact SeqAt.EqAt.str_int x t j u _ _ _ _ h
   .rw[EU] at h;exact wpAny_eqBool_str h
 «strs»:=fun k x t v h=>by
  rcases jK h with ⟨i,u,rfl,e⟩|⟨y,u,rfl,e⟩
  .exact nomatch e
  .injection e with e1 _;subst e1;cases v <;> rfl
inductive V where
 |non|bl (b:Bool)|int (i:Int)|str (x:Str)|byt (b:Array UInt8)|flt (b:UInt64)|ref (a:Addr)|ty (n:?Bv)
 deriving DecidableEq
def YV:V->Value->Prop
 |.non,u=>u=Value.none
 |.bl b,u=>u=Value.bool b
 |.int i,u=>∃ t,u=Value.int i t
 |.str x,u=>∃ t,u=Value.str x t
 |.byt b,u=>∃ t,u=Value.bytes b t
 |.flt b,u=>∃ t,u=Value.float b t
 |.ref a,u=>u=Value.ref a
 |.ty n,u=>u=Value.type n
abbrev qc:List V->List Value->Prop:=Paired YV
theorem qc.length(r:?Is):xs.length=us.length:=Paired.length r
theorem qc.get:∀ {xs:List V} {us:List Value} {i:Nat} {x:V},qc xs us->xs[i]?=some x->∃ u,us[i]?=some u/\YV x u
 |_,_,_,_,.nil,e=>by simp at e
 |_,_,0,_,.cons r _,e=>by simp at e;subst e;exact⟨_,rfl,r⟩
 |_,_,i+1,x,.cons _ t,e=>by
  obtain⟨u,h1,h2⟩:=qc.get (i:=i) (x:=x) t (by simpa using e);exact⟨u,by simpa using h1,h2⟩
theorem qc.set(r:YV x u):∀ {xs:List V} {us:List Value} (i:Nat),qc xs us->qc (xs.set i x) (us.set i u)
 |_,_,_,.nil=>.nil
 |_,_,0,.cons _ t=>.cons r t
 |_,_,i+1,.cons q t=>.cons q (qc.set r i t)
theorem qc.append:∀ {xs ys:List V} {us ws:List Value},qc xs us->qc ys ws->qc (xs++ys) (us++ws)
 |_,_,_,_,.nil,s=>s
 |_,_,_,_,.cons r t,s=>.cons r (qc.append t s)
theorem qc.take:∀ {xs:List V} {us:List Value} (n:Nat),qc xs us->qc (xs.take n) (us.take n)
 |_,_,0,_=>.nil
 |_,_,_+1,.nil=>.nil
 |_,_,n+1,.cons r t=>.cons r (qc.take n t)
theorem qc.drop:∀ {xs:List V} {us:List Value} (n:Nat),qc xs us->qc (xs.drop n) (us.drop n)
 |_,_,0,r=>r
 |_,_,_+1,.nil=>.nil
 |_,_,n+1,.cons _ t=>qc.drop n t
def V8:Option V->Option Value->Prop
 |some v,some u=>YV v u
 |none,none=>True
 |_,_=>False
def KV:List (κ×V)->List (κ×Value)->Prop:=Paired fun (p:κ×V) (q:κ×Value)=>p.1=q.1/\YV p.2 q.2
def kV:Key->V
 |.inl i=>.int i
 |.inr x=>.str x
inductive HO where
 |lst (xs:?AL)
 |tup (xs:?AL)
 |dK (kvs:?vO)|dT (kvs:?xP)
 |set (S:Int->Bool) (n:Nat)
 |ins (C dx:Addr) (fs:List (Str×V))
 |own (x:Addr)
 |xd (fs:List (Str×V))
 |met (f x:Addr)
 |rng (lo hi:Int)
 |frz (o:Obj) (u:HO)
 |tbl (ps:?CN)
 |ext (φ:Heap->Prop)
abbrev Hp:=Addr->Option HO
def upd (H:Hp)(a:Addr)(o:HO):Hp:=fun b=>if b=a then some o else H b
theorem yX:upd H a o a=some o:=by unfold upd;rw[yf rfl]
theorem yR(h:b≠a):upd H a o b=H b:=by unfold upd;rw[ye h]
theorem Hl {H:Hp}{a b:Addr}{o u:HO}(h:H a=some o)(h':H b=some u)(d:o≠u):a≠b:=by
 intro e;subst e;rw[h] at h';exact d (Option.some.inj h')
theorem Yo {H:Hp}{a b:Addr}{o:HO}(h:H a=some o)(h':H b=none):a≠b:=by
 intro e;subst e;rw[h] at h';cases h'
section
variable (P:?A6)(w:?A5)
def qQ (H:Hp)(h:Heap)(a:Addr):HO->Prop
 |.lst xs=>xs.length<=sizeLine/\∃ (its:List Value) (n:Nat),qc xs its/\h.get? a=some {cls:=?S, data:=?Dl}
 |.tup xs=>xs.length<=sizeLine/\∃ its:List Value,qc xs its/\IsTup h a its.toArray
 |.dK kvs=>kvs.length<=sizeLine/\?zQ=false/\∃ vs,KV kvs vs/\h.DictOf ?Bf a vs
 |.dT kvs=>kvs.length<=sizeLine/\?zQ=false/\∃ xs:List (List Key×Addr×Value),
   Paired (fun (p:List Key×V) (q:List Key×Addr×Value)=>p.1=q.1/\H q.2.1=some (.tup (p.1.map kV))/\YV p.2 q.2.2) kvs xs/\
   ∃ o es ep,h.get? a=some o/\o.ExactDict/\o.data=.dict es ep/\es.toList=xs.map (entryOfKey ?Fn)/\(?Ls).Nodup
 |.set S n=>h.SetOf (intKind P w) a S n
 |.ins C dx fs=>H dx=some (.own a)/\fs.length<=1000/\dx≠a/\h.get? a=some ?Ko/\
   ∃ mA,h.Ns1 dx mA/\(∀ f,?O3)/\PySem.Within mA (fs.map ?C)
 |.own _=>∃ o,h.get? a=some o
 |.xd fs=>∃ mA,h.Ns1 a mA/\∀ f,V8 (fs.lookup f) (mA f)
 |.rng lo hi=>∃ t u v,h.get? a=some {cls:=.type "range", data:=?uZ}
 |.frz o u=>h.get? a=some o/\qQ H h a u
 |.tbl ps=>h.get? a=some {cls:=?An,data:=.fields ps}
 |.met f x=>h.get? a=some (W.methodObj ?Al ?Bg)
 |.ext φ=>φ h/\(∃ o,h.get? a=some o)/\∀ h1 h2:Heap,φ h1->(∀ o,h1.get? a=some o->h2.get? a=some o)->φ h2
def HOk (H:Hp)(h:Heap):Prop:=∀ a o,H a=some o->qQ P w H h a o
end
section
theorem qQ.lt (x:?Kj):a<h.objs.size:=by
 cases o with
 |lst xs=>obtain⟨_,_,_,_,e⟩:=x;exact yu e
 |tup xs=>obtain⟨_,_,_,p⟩:=x;exact p.lt
 |dK kvs=>obtain⟨_,_,_,_,o,_,_,e,_⟩:=x;exact yu e
 |dT kvs=>obtain⟨_,_,_,_,o,_,_,e,_⟩:=x;exact yu e
 |set S n=>obtain⟨o,_,_,_,e,_⟩:=x;exact yu e
 |ins C dx fs=>obtain⟨_,_,_,e,_⟩:=x;exact yu e
 |own y=>obtain⟨_,e⟩:=x;exact yu e
 |xd fs=>obtain⟨_,⟨_,_,_,e,_⟩,_⟩:=x;exact yu e
 |rng lo hi=>obtain⟨_,_,_,e⟩:=x;exact yu e
 |frz ob u=>obtain⟨e,_⟩:=x;exact yu e
 |tbl ps=>exact yu (show h.get? a=some _ from x)
 |met f y=>exact yu (show h.get? a=some _ from x)
 |ext φ=>obtain⟨_,⟨_,e⟩,_⟩:=x;exact yu e
theorem Paired.mapP {F G:α->β->Prop}:∀ {l₁:List α} {l₂:List β},Paired F l₁ l₂->(∀ a b,F a b->G a b)->Paired G l₁ l₂
 |_,_,.nil,_=>.nil
 |_,_,.cons r t,f=>.cons (f _ _ r) (Paired.mapP t f)
theorem qQ.stay (x:?Kj)(k:∀ b u,(b=a∨H b=some (.own a))->h.get? b=some u->h'.get? b=some u)
  (ho:∀ b,H b=some (.own a)->H' b=some (.own a)) (ht:∀ b xs,H b=some ?BN->H' b=some ?BN):qQ P w H' h' a o:=by
 induction o with
 |lst xs=>obtain⟨z,its,n,r,e⟩:=x;exact⟨z,its,n,r,?C4⟩
 |tup xs=>obtain⟨z,its,r,ob,e,c⟩:=x;exact⟨z,its,r,ob,?C4,c⟩
 |dK kvs=>obtain⟨z,y,vs,r,ob,es,ep,e,c⟩:=x;exact⟨z,y,vs,r,ob,es,ep,?C4,c⟩
 |dT kvs=>
  obtain⟨z,y,xs,r,ob,es,ep,e,c⟩:=x;exact⟨z,y,xs,Paired.mapP r fun p q z=>⟨z.1,ht _ _ z.2.1,z.2.2⟩,ob,es,ep,?C4,c⟩
 |set S n=>obtain⟨ob,es,ep,t,e,c⟩:=x;exact⟨ob,es,ep,t,?C4,c⟩
 |ins C dx fs=>
  obtain⟨d,z,ne,e,mA,⟨od,es,ep,e2,c⟩,r⟩:=x;exact⟨ho _ d,z,ne,?C4,mA,⟨od,es,ep,k _ _ (.inr d) e2,c⟩,r⟩
 |own y=>obtain⟨ob,e⟩:=x;exact⟨ob,?C4⟩
 |xd fs=>obtain⟨mA,⟨od,es,ep,e,c⟩,r⟩:=x;exact⟨mA,⟨od,es,ep,?C4,c⟩,r⟩
 |rng lo hi=>obtain⟨t,u,v,e⟩:=x;exact⟨t,u,v,?C4⟩
 |frz ob u ih=>obtain⟨e,q⟩:=x;exact⟨?C4,ih q⟩
 |tbl ps=>
  have e:h.get? a=some {cls:=?An,data:=.fields ps}:=x;show h'.get? a=some {cls:=?An,data:=.fields ps};exact k a _ ?A3 e
 |met f y=>
  have e:h.get? a=some (W.methodObj (.ref f) (.ref y)):=x;show h'.get? a=some (W.methodObj ?Al (.ref y));exact k a _ ?A3 e
 |ext φ=>obtain⟨p,⟨o,e⟩,st⟩:=x;exact⟨st _ _ p fun o q=>k _ _ ?A3 q,⟨o,?C4⟩,st⟩
theorem HOk.lt (x:?B4)(e:H a=some o):a<h.objs.size:=(x a o e).lt
theorem HOk.fresh (x:?B4)(e:h.objs.size<=a):H a=none:=by
 cases q:H a with
 |none=>rfl
 |some u=>exact absurd (Yc (x.lt q) e) (jH _)
theorem HOk.kept (x:?B4)(k:∀ b u,?kP):HOk P w H h':=fun a o e=>
 (x a o e).stay (fun b u _ q=>k b u q) (fun _ q=>q) fun _ _ q=>q
theorem HOk.laid (x:?B4)(k:∀ b u,?kP)(hp:h.objs.size<=a)(new:qQ P w ?E5 h' a o):HOk P w ?E5 h':=fun b u e=>by
 have hn:=x.fresh hp;by_cases hb:b=a
 .subst hb;rw[yX] at e;cases e;exact new
 .rw[yR hb] at e;exact(x b u e).stay (fun c v _ q=>k c v q) (fun c q=>by rw[yR (Yo q hn)];exact q) fun c xs q=>by rw[yR (Yo q hn)];exact q
end
def Rd (H:Hp)(a:Addr)(u:HO):Prop:=H a=some u∨∃ o,H a=some ?BK
theorem Rd.ok(r:Rd H a u)(x:?B4):qQ P w H h a u:=by
 rcases r with r|⟨o,r⟩
 .exact x a u r
 .obtain⟨_,q⟩:=x a _ r;exact q
def Mut:Option HO->Prop
 |some (.lst _)=>True
 |some (.dK _)=>True
 |some (.dT _)=>True
 |some (.set _ _)=>True
 |some (.ins _ _ _)=>True
 |some (.ext _)=>True
 |_=>False
section
theorem HOk.write (ok:?B4)(mu:Mut (H x))(he:e=x∨H e=some (.own x))(k:∀ b u,b≠e->h.get? b=some u->h'.get? b=some u)(heo:∃ u,h'.get? e=some u)
  (new:qQ P w (upd H x o') h' x o'):HOk P w (upd H x o') h':=fun b u q=>by
 have nown:∀ c y,H c=some (.own y)->c≠x:=fun c y r z=>by subst z;rw[r] at mu;exact mu
 have ntup:∀ c xs,H c=some ?BN->c≠x:=fun c xs r z=>by subst z;rw[r] at mu;exact mu
 by_cases hb:b=x
 .subst hb;rw[yX] at q;cases q;exact new
 .rw[yR hb] at q;by_cases hbe:b=e
  .have q':H b=some (.own x):=by
    rcases he with z|z
    .exact absurd (hbe.trans z) hb
    .rw[hbe];exact z
   rw[q] at q';cases q';obtain⟨v,hv⟩:=heo;exact⟨v,by rw[hbe];exact hv⟩
  .refine(ok b u q).stay (fun c v hc r=>k c v ?_ r) (fun c r=>by rw[yR (nown c b r)];exact r) fun c xs r=>by rw[yR (ntup c xs r)];exact r
   rcases hc with rfl|hc
   .exact hbe
   .rintro rfl;rcases he with z|z
    .exact nown c b hc z
    .rw[hc] at z;cases z;exact hb rfl
end
structure Un (fs ex:?Ar)(H H':Hp)(h h':Heap):Prop where
 keep:∀ b o,h.get? b=some o->H b=none->b∉fs->b∉ex->h'.get? b=some o
 slot:∀ b o,h.get? b=some o->H b=none->b∈fs->b∉ex->∃ sl,h'.get? b=some {o with slots:=sl}
 free:∀ b o,h.get? b=some o->H b=none->b∉ex->H' b=none
 there:∀ b o,h.get? b=some o->b∉ex->∃ o',h'.get? b=some o'
 tups:∀ b xs,H b=some ?BN->H' b=some ?BN
 frzs:∀ b o u,H b=some ?BK->H' b=some ?BK
 tbls:∀ b ps,H b=some (.tbl ps)->∃ more,H' b=some (.tbl (ps++more))
section
variable {h h1 h2 h':Heap}
theorem Un.any (u:Un fs ex H H1 h h1)(q:h.get? b=some ob)(n:H b=none)(hx:b∉ex):∃ sl,h1.get? b=some {ob with slots:=sl}:=by
 by_cases hb:b∈fs
 .exact u.slot b ob q n hb hx
 .exact⟨ob.slots,u.keep b ob q n hb hx⟩
theorem Un.kept (k:∀ b u,?kP):Un fs ex H H h h':=
 ⟨fun b ob q _ _ _=>k b ob q,fun b ob q _ _ _=>⟨ob.slots,k b ob q⟩,fun _ _ _ n _=>n,fun b ob q _=>⟨ob,k b ob q⟩,fun _ _ q=>q,fun _ _ _ q=>q,fun _ ps q=>⟨#[],by rw[q];simp⟩⟩
theorem Un.refl:Un fs ex H H h h:=Un.kept fun _ _ q=>q
theorem Un.laid (k:∀ b u,?kP)(hp:h.objs.size<=a)(hn:H a=none):Un fs ex H ?E5 h h' where
 keep:=fun b u q _ _ _=>k b u q
 slot:=fun b u q _ _ _=>⟨u.slots,k b u q⟩
 free:=fun b u q n _=>by rw[yR (Ym (Yc (yu q) hp))];exact n
 there:=fun b u q _=>⟨u,k b u q⟩
 tups:=fun b xs q=>by rw[yR (Yo q hn)];exact q
 frzs:=fun b u xs q=>by rw[yR (Yo q hn)];exact q
 tbls:=fun b ps q=>⟨#[],by rw[yR (Yo q hn),q];simp⟩
theorem Un.write (mu:Mut (H x))(he:e=x∨H e=some (.own x))(k:∀ b u,b≠e->h.get? b=some u->h'.get? b=some u)(heo:∃ u,h'.get? e=some u):Un fs ex H (upd H x o) h h':=by
 have hx:∀ b,H b=none->b≠x:=fun b n z=>by subst z;rw[n] at mu;exact mu
 have hb:∀ b,H b=none->b≠e:=fun b n z=>by
  subst z;rcases he with r|r
  .exact hx b n r
  .rw[n] at r;cases r
 have hm:∀ b u,H b=some u->¬ Mut (some u)->b≠x:=fun b u q nm z=>by subst z;rw[q] at mu;exact nm mu
 refine⟨fun b u q n _ _=>k b u (hb b n) q,fun b u q n _ _=>⟨u.slots,k b u (hb b n) q⟩,fun b u q n _=>by rw[yR (hx b n)];exact n,fun b u q _=>?_,
  fun b xs q=>by rw[yR (hm b _ q fun z=>z)];exact q,fun b u xs q=>by rw[yR (hm b _ q fun z=>z)];exact q,fun b ps q=>⟨#[],by rw[yR (hm b _ q fun z=>z),q];simp⟩⟩
 by_cases hbe:b=e
 .subst hbe;exact heo
 .exact⟨u,k b u hbe q⟩
end
def trk (h:Heap)(H:Hp):?Ar:=(List.range h.objs.size).filter fun a=>(H a).isSome
def cL (h:Heap)(H:Hp):Heap:=W.hideAll h (trk h H)
theorem oR (h:Heap)(H:Hp):(cL h H).objs.size=h.objs.size:=W.hideAll_size _ _
theorem sN {h:Heap}{H:Hp}{b:Addr}{o:Obj}(e:h.get? b=some o)(n:H b=none):(cL h H).get? b=some o:=
 W.hideAll_get _ e fun hm=>by
  have q:(H b).isSome=true:=(Ys.mp hm).2;rw[n] at q;simp at q
theorem Dm {h:Heap}{H:Hp}{b:Addr}{o:Obj}(e:(cL h H).get? b=some o):h.get? b=some o/\H b=none:=by
 have e':h.get? b=some o:=W.of_hideAll (trk h H) e;refine⟨e',?_⟩;cases q:H b with
 |none=>rfl
 |some x=>
  have hm:b∈trk h H:=Ys.mpr ⟨qS.mpr (yu e'),by simp[q]⟩;have z:(cL h H).get? b=none:=W.hideAll_none (trk h H) hm;rw[z] at e;cases e
structure Mod (K:?A1)(mg:?G)(base:Heap):Prop where
 kin:K.In base
 glob:base.Ns mainGlobals mg
 blt:∃ mb,base.Ns builtinsNs mb/\∀ x:Str,x ≠ "__name__" -> mb x=bootBuiltins x
 nolimit:base.NoLimit
 seer:base.NoSeer
structure Cx where
 prog:Program
 w:World
 K:W.Frag
 mg:Str->Option Value
 base:Heap
 A:Around
 N:List Str
 s₀:Shared
 H₀:Hp
 env:Env
 outer:List Env
 stack:List Env
 ex:List Addr
 fn:Str->Bool
 calm:Bool
 pn:List (Addr×Obj)
 xe:Value->Shared->Prop
def frs (l:?CU):?Ar:=l.filterMap (·.frame)
abbrev Cx.fs (X:Cx):?Ar:=frs X.outer
def Vis (sc:?BR)(x:Str):Prop:=sc.names.lookup x=some .local∨sc.names.lookup x=some .cell∨sc.names.lookup x=some .free
def Loc (sc:?BR)(x:Str):Prop:=sc.names.lookup x=some .local∨sc.names.lookup x=some .cell
def IE (env:Env)(h:Heap)(m:?G)(x:Str)(u:?AK):Prop:=
 (env.kindOf x=some .local/\m x=some u)∨((env.kindOf x=some .cell∨env.kindOf x=some .free)/\∃ c,env.cells.lookup x=some c/\h.IsCell c (some u))
structure Cx.Ok (X:Cx):Prop where
 mod:Mod X.K X.mg X.base
 kind:X.env.scope.kind=.function
 glob:X.env.globals=mainGlobals
 blt:X.env.builtins=builtinsNs
 above:X.s₀.heap.objs.size<=X.env.locals
 inj:∀ x y c,X.env.cells.lookup x=some c->X.env.cells.lookup y=some c->x=y
 has:∀ x,(X.env.kindOf x=some .cell∨X.env.kindOf x=some .free)->∃ c,X.env.cells.lookup x=some c
 cab:∀ x c,X.fn x=true->X.env.cells.lookup x=some c->X.s₀.heap.objs.size<=c
 hd:X.calm=true->X.A.handled=none
 frames:X.A.frames=some X.stack
 stk:X.stack=X.outer∨(X.stack=X.env::X.outer/\X.env.frame=some X.env.locals)
 exf:∀ b∈X.ex,b≠X.env.locals/\∀ x c,X.env.cells.lookup x=some c->c≠b
 bs:∀ b o,X.base.get? b=some o->X.s₀.heap.get? b=some o/\X.H₀ b=none
 bsz:X.base.objs.size<=X.s₀.heap.objs.size
 noex:∀ b o,X.base.get? b=some o->b∉X.ex
 exfs:∀ b∈X.ex,b∉X.fs
 funs:X.s₀.heap.FunFrames X.base X.outer
 frf:∀ b∈X.fs,X.H₀ b=none
structure Inv (X:Cx)(pins:?Q)(σ:List ?Iw)(H:Hp)(s:?AI):Prop where
 ok:X.Ok
 os:s.os=X.s₀.os
 bare:AllBare s.gens
 base:Un X.fs X.ex X.H₀ H X.s₀.heap s.heap
 loc:∃ m,s.heap.Ns X.env.locals m/\∀ (i:Nat) (x:Str) (v:V),X.N[i]?=some x->σ[i]?=some ?CY->Vis X.env.scope x->∃ u,YV v u/\IE X.env s.heap m x u
 cell:∀ x c,X.env.cells.lookup x=some c->∃ v,s.heap.IsCell c v
 free:H X.env.locals=none
 freeC:∀ x c,X.env.cells.lookup x=some c->H c=none
 pin:∀ p∈X.pn++pins,s.heap.get? p.1=some p.2/\H p.1=none/\p.1≠X.env.locals/\p.1∉X.fs/\∀ v,p.2.data≠.cell v
 hok:HOk X.prog X.w H s.heap
 len:σ.length=X.N.length
section
variable {X:Cx}{pins:?Q}{σ:List (Option V)}{H H':Hp}{s:?AI}{h':Heap}
theorem Cx.Ok.nofr (ok:X.Ok)(e:X.base.get? b=some o):b∉X.fs:=fun hb=>by
 have:=(ok.funs.mem hb).1;rw[e] at this;cases this
theorem Inv.bs (I:?A8):∀ b o,X.base.get? b=some o->s.heap.get? b=some o/\H b=none:=fun b o e=>
 ⟨I.base.keep b o (?I4).1 (?I4).2 (I.ok.nofr e) (I.ok.noex b o e),I.base.free b o (?I4).1 (?I4).2 (I.ok.noex b o e)⟩
theorem Inv.bk (I:?A8):∀ b o,X.base.get? b=some o->s.heap.get? b=some o:=fun b o e=>(I.bs b o e).1
theorem Inv.mod (I:?A8):Mod X.K X.mg X.base:=I.ok.mod
theorem Inv.kIn (I:?A8):X.K.In s.heap:=I.ok.mod.kin.keeps I.bk
theorem Inv.nolimit (I:?A8):s.heap.NoLimit:=I.ok.mod.nolimit.keeps I.bk
theorem Inv.lt (I:?A8):X.env.locals<s.heap.objs.size:=let ⟨_,hn,_⟩:=I.loc;hn.lt
theorem Inv.sz (I:?A8):X.s₀.heap.objs.size<=s.heap.objs.size:=yU I.ok.above (Qb I.lt)
theorem Inv.nofs (I:?A8)(h:s.heap.objs.size<=a):a∉X.fs:=fun hb=>by
 obtain⟨_,o,ho,_⟩:=I.ok.funs.mem hb;exact absurd (Yc (yu ho) (yU I.sz h)) (jH _)
theorem Inv.cne (I:?A8):∀ x c,X.env.cells.lookup x=some c->c≠X.env.locals:=fun x c e z=>by
 obtain⟨v,o,ho,hd⟩:=I.cell x c e;obtain⟨m,⟨o',es,ep,ho',hd',_⟩,_⟩:=I.loc;rw[z,ho'] at ho;cases ho;rw[hd'] at hd;cases hd
theorem Inv.funs (I:?A8):s.heap.FunFrames X.base X.outer:=by
 have all:∀ (l:List Env),(∀ b∈frs l,b∈X.fs)->X.s₀.heap.FunFrames X.base l->s.heap.FunFrames X.base l:=by
  intro l
  induction l with
  |nil=>intro _ _;trivial
  |cons env r ih=>
   intro hs hl;obtain⟨hk,⟨L,o,hf,hn,ho,hd⟩,hr⟩:=hl;have hL:L∈X.fs:=hs L (by unfold frs;rw[List.filterMap_cons,hf];exact yh);obtain⟨sl,e⟩:=I.base.slot L o ho (I.ok.frf L hL) hL fun z=>I.ok.exfs L z hL;exact⟨hk,⟨L,_,hf,hn,e,hd⟩,ih (fun b hb=>hs b (by unfold frs;rw[List.filterMap_cons,hf];exact yb _ hb)) hr⟩
 exact all X.outer (fun _ hb=>hb) I.ok.funs
theorem Inv.stack (I:?A8):s.heap.FunFrames X.base X.stack:=by
 rcases I.ok.stk with e|⟨e,hf⟩
 .rw[e];exact I.funs
 .rw[e];obtain⟨m,hn,_⟩:=I.loc;refine .cons (by rw[I.ok.kind];decide) hf hn ?_ I.funs;exact Heap.get?_none_of_le (yU I.ok.bsz I.ok.above)
theorem Inv.stkSub (I:?A8):∀ b∈frs X.stack,b∈X.env.locals::X.fs:=fun b hb=>by
 rcases I.ok.stk with e|⟨e,hf⟩
 .rw[e] at hb;exact yb _ hb
 .rw[e] at hb;unfold frs at hb;rw[List.filterMap_cons,hf] at hb;exact hb
theorem Inv.stkFree (I:?A8):∀ b∈frs X.stack,H b=none:=fun b hb=>by
 rcases yG.mp (I.stkSub b hb) with e|hb
 .rw[e];exact ?EN
 .obtain⟨_,o,ho,_⟩:=I.ok.funs.mem hb;exact I.base.free b o ho (I.ok.frf b hb) fun z=>I.ok.exfs b z hb
theorem Inv.step {g':?Kt}{t':Nat}{d':Drawn}{ch:?Ar}(I:?A8)
  (hch:∀ b∈ch,?kL/\b≠X.env.locals/\?kF/\∀ p∈X.pn++pins,p.1≠b)
  (keep:∀ b o,b≠X.env.locals->b∉X.fs->b∉ch->s.heap.get? b=some o->H b=none->h'.get? b=some o)
  (slot:∀ b o,b≠X.env.locals->b∈X.fs->b∉ch->s.heap.get? b=some o->H b=none->∃ sl,h'.get? b=some {o with slots:=sl}) (free:∀ b o,b∉ch->s.heap.get? b=some o->H b=none->H' b=none)
  (there:∀ b o,b∉ch->s.heap.get? b=some o->∃ o',h'.get? b=some o')
  (tups:∀ b xs,H b=some ?BN->H' b=some ?BN) (frzs:∀ b o u,H b=some ?BK->H' b=some ?BK) (tbls:∀ b ps,H b=some (.tbl ps)->∃ more,H' b=some (.tbl (ps++more)))
  (ns:∀ m,s.heap.Ns X.env.locals m->h'.Ns X.env.locals m) (hok:?Jr) (hg:AllBare g') :
  Inv X pins σ H' {s with heap:=h',gens:=g',drawn:=d',toks:=t'}:=by
 have neL:∀ b o,X.s₀.heap.get? b=some o->b≠X.env.locals:=fun b o e=>Ym ?HN;have neC:∀ b o,X.s₀.heap.get? b=some o->b∉X.ex->b∉ch:=fun b o e hx hb=>by
  rcases (hch b hb).1 with z|z
  .exact hx z
  .exact absurd (Yc (yu e) z) (jH _)
 have cellK:∀ x c,X.env.cells.lookup x=some c->∀ v,s.heap.IsCell c v->h'.IsCell c v:=fun x c e v ⟨o,ho,hd⟩=>by
  have nch:c∉ch:=fun z=>(hch c z).2.2.1 x c e rfl;by_cases hc:c∈X.fs
  .obtain⟨sl,q⟩:=slot c o (I.cne x c e) hc nch ho ?LE;exact⟨_,q,hd⟩
  .exact⟨o,keep c o (I.cne x c e) hc nch ho ?LE,hd⟩
 refine⟨I.ok,I.os,hg,⟨fun b o e n hb hx=>?_,fun b o e n hb hx=>?_,fun b o e n hx=>?_,fun b o e hx=>?_,fun b xs e=>tups b xs (I.base.tups b xs e),fun b o xs e=>frzs b o xs (I.base.frzs b o xs e),fun b ps e=>?_⟩,?_,fun x c e=>?_,?_,fun x c e=>?_,fun p hp=>?_,hok,I.len⟩
 .exact keep b o (neL b o e) hb ?I8 ?Je ?Jj
 .obtain⟨sl,e1⟩:=I.base.slot b o e n hb hx;obtain⟨sl',e2⟩:=slot b _ (neL b o e) hb ?I8 e1 ?Jj;exact⟨sl',e2⟩
 .obtain⟨o',e1⟩:=I.base.there b o e hx;exact free b o' ?I8 e1 ?Jj
 .obtain⟨o',e1⟩:=I.base.there b o e hx;exact there b o' ?I8 e1
 .obtain⟨m1,e1⟩:=I.base.tbls b ps e;obtain⟨m2,e2⟩:=tbls b _ e1;exact⟨m1++m2,by rw[e2,Array.append_assoc]⟩
 .obtain⟨m,hn,hl⟩:=I.loc;refine⟨m,ns m hn,fun i x v e1 e2 e3=>?_⟩;obtain⟨u,r,l⟩:=hl i x v e1 e2 e3;refine⟨u,r,?_⟩;rcases l with l|⟨k,c,e,z⟩
  .exact .inl l
  .exact .inr ⟨k,c,e,cellK x c e _ z⟩
 .obtain⟨v,z⟩:=I.cell x c e;exact⟨v,cellK x c e v z⟩
 .obtain⟨m,⟨o,_,_,ho,_⟩,_⟩:=I.loc;exact free _ o (fun z=>(hch _ z).2.1 rfl) ho I.free
 .obtain⟨v,o,ho,hd⟩:=I.cell x c e;exact free c o (fun z=>(hch c z).2.2.1 x c e rfl) ho ?LE
 .obtain⟨e,n,ne,nf,d⟩:=I.pin p hp;have nch:p.1∉ch:=fun z=>(hch p.1 z).2.2.2 p hp rfl;exact⟨keep p.1 p.2 ne nf nch e n,free p.1 p.2 nch e n,ne,nf,d⟩
theorem Inv.un {t':Nat}(I:?A8)(u:Un X.fs [] H H' s.heap h')(hok:?Jr):Inv X pins σ H' {s with heap:=h',toks:=t'}:=by
 obtain⟨m,⟨o,es,ep,ho,r⟩,_⟩:=id I.loc;obtain⟨sl,hL⟩:=u.any ho I.free (by simp);exact I.step (g':=s.gens) (d':=s.drawn) (ch:=[]) (fun _ z=>nomatch z) (fun b o _ hb _ e n=>u.keep b o e n hb (by simp)) (fun b o _ hb _ e n=>u.slot b o e n hb (by simp)) (fun b o _ e n=>u.free b o e n (by simp)) (fun b o _ e=>u.there b o e (by simp)) u.tups u.frzs u.tbls (fun m' hm=>by
  obtain⟨o',es',ep',ho',r'⟩:=hm;rw[ho] at ho';cases ho';exact⟨_,es',ep',hL,r'⟩) hok I.bare
theorem Inv.call {g':?Kt}{t':Nat}{d':Drawn}{ch:?Ar}(I:?A8)(u:Un (frs X.stack) ch H H' s.heap h')(hok:?Jr)(hg:AllBare g')
  (hch:∀ b∈ch,?kL/\b≠X.env.locals/\?kF/\∀ p∈X.pn++pins,p.1≠b) :
  Inv X pins σ H' {s with heap:=h',gens:=g',drawn:=d',toks:=t'}:=by
 obtain⟨m,⟨o,es,ep,ho,r⟩,_⟩:=id I.loc;obtain⟨sl,hL⟩:=u.any ho I.free fun z=>(hch _ z).2.1 rfl;exact I.step (ch:=ch) hch (fun b o hL hb hc e n=>u.keep b o e n (fun z=>(yG.mp (I.stkSub b z)).elim hL hb) hc) (fun b o _ _ hc e n=>u.any e n hc) (fun b o hc e n=>u.free b o e n hc) (fun b o hc e=>u.there b o e hc) u.tups u.frzs u.tbls (fun m' hm=>by
  obtain⟨o',es',ep',ho',r'⟩:=hm;rw[ho] at ho';cases ho';exact⟨_,es',ep',hL,r'⟩) hok hg
theorem Inv.turned {t':Nat}{it:Addr}(I:?A8)(k:∀ b o,b≠it->s.heap.get? b=some o->h'.get? b=some o)(hn:H it=none)(hL:it≠X.env.locals)
  (h1:it∈X.ex∨X.s₀.heap.objs.size<=it) (h2:∀ x c,X.env.cells.lookup x=some c->c≠it) (h3:∀ p∈X.pn++pins,p.1≠it):Inv X pins σ H {s with heap:=h',toks:=t'}:=by
 have nit:∀ b u,H b=some u->b≠it:=fun b u e z=>by rw[z,hn] at e;cases e
 refine I.step (g':=s.gens) (d':=s.drawn) (ch:=[it]) ?wH (fun b o _ _ hc e _=>k b o (fun z=>hc (by simp[z])) e) (fun b o _ _ hc e _=>⟨o.slots,k b o (fun z=>hc (by simp[z])) e⟩) (fun _ _ _ _ n=>n)
  (fun b o hc e=>⟨o,k b o (fun z=>hc (by simp[z])) e⟩) (fun _ _ e=>e) (fun _ _ _ e=>e) (fun b ps e=>⟨#[],by rw[e];simp⟩) (fun m hm=>?_) (fun b u e=>?_) I.bare
 .have e:b=it:=by simpa using hb
  subst e;exact⟨h1,hL,h2,h3⟩
 .obtain⟨o,es,ep,ho,r⟩:=hm;exact⟨o,es,ep,k _ o (Ne.symm hL) ho,r⟩
 .refine(?Ln).stay (fun c v hc q=>k c v ?_ q) (fun _ q=>q) fun _ _ q=>q;rcases hc with z|z
  .rw[z];exact nit b u e
  .exact nit c _ z
theorem Inv.tok (I:?A8)(t:Nat):Inv X pins σ H {s with toks:=t}:=I.un (h':=s.heap) (t':=t) Un.refl I.hok
theorem Inv.kept(I:?A8)(k:∀ b u,s.heap.get? b=some u->h'.get? b=some u):Inv X pins σ H {s with heap:=h',toks:=t'}:=I.un (Un.kept k) (I.hok.kept k)
theorem Inv.laid(I:?A8)(k:∀ b u,s.heap.get? b=some u->h'.get? b=some u)(hp:s.heap.objs.size<=a)(new:qQ X.prog X.w ?E5 h' a o) :
  Inv X pins σ ?E5 {s with heap:=h',toks:=t'}:=I.un (Un.laid k hp (I.hok.fresh hp)) (I.hok.laid k hp new)
theorem Inv.write(I:?A8)(mu:Mut (H x))(he:e=x∨H e=some (.own x))(k:∀ b u,b≠e->s.heap.get? b=some u->h'.get? b=some u)(heo:∃ u,h'.get? e=some u)
  (new:qQ X.prog X.w (upd H x o) h' x o):Inv X pins σ (upd H x o) {s with heap:=h',toks:=t'}:=I.un (Un.write mu he k heo) (I.hok.write mu he k heo new)
theorem Inv.pins_of(I:?A8)(h:∀ p∈pins',s.heap.get? p.1=some p.2/\H p.1=none/\p.1≠X.env.locals/\p.1∉X.fs/\∀ v,p.2.data≠.cell v):Inv X pins' σ H s:=
 ⟨I.ok,I.os,?Cc,I.base,I.loc,?FV,?EN,?Gr,fun p hp=>(?J3).elim (fun z=>I.pin p (yq _ z)) (h p),I.hok,I.len⟩
theorem eI {N:?A0}(hN:N.Nodup){i j:Nat}{x:Str}(a:N[i]?=some x)(b:N[j]?=some x):i=j:=by
 obtain⟨h1,e1⟩:=yi.mp a;obtain⟨h2,e2⟩:=yi.mp b;exact(List.getElem_inj hN).mp (e1.trans e2.symm)
theorem ap {M:Model}{A:?Ad}{E:?M}{i:Nat}{x:Str}{v:V}{u:?AK}{Q:Unit->Shared->Prop}(I:?A8)(hN:?CC)(hi:?zF)(hx:?DL)(r:?EO)
  (h:∀ s',Inv X pins ?HX H s'->(∃ a,Heap.SameBut a s.heap s'.heap/\(a=X.env.locals∨X.env.cells.lookup x=some a))->Q () s') (hf:?yN:=by first|exact .inl rfl|exact .inr rfl|assumption):?Mr:=by
 obtain⟨m,hn,hl⟩:=id I.loc;have hcls:(X.env.scope.kind==.class||(X.env.scope.kind==.module&&X.env.locals != X.env.globals))=false:=by rw[I.ok.kind];rfl
 have hiσ:i<σ.length:=by rw[I.len];exact(?ED).1
 have cne:=I.cne;have tracked:∀ {a:Addr} {h':Heap},(∃ o,s.heap.get? a=some o/\H a=none)->Heap.SameBut a s.heap h'->HOk X.prog X.w H h':=fun {a h'} ha hs b ob e=>by
  obtain⟨_,_,hfree⟩:=ha;refine(I.hok b ob e).stay (fun c w' hc q=>(hs.2 c ?_).trans q) (fun _ q=>q) fun _ _ q=>q;rintro rfl;rcases hc with rfl|hc
  .rw[hfree] at e;cases e
  .rw[hfree] at hc;cases hc
 rcases hx with hk|hk
 .refine wpAny_storeName_local hk hn (fun h' hn' hs=>?_) hcls;obtain⟨oL,_,_,hoL,_⟩:=id hn;refine h _ ⟨I.ok,I.os,?Cc,⟨fun b o e n hb hx=>?_,fun b o e n hb hx=>?_,I.base.free,fun b o e hx=>?_,I.base.tups,I.base.frzs,I.base.tbls⟩,⟨_,hn',fun j y v' e1 e2 e3=>?_⟩,fun y c e=>?_,?EN,?Gr,fun p hp=>?_,tracked ⟨oL,hoL,?EN⟩ hs,by simpa using I.len⟩ ⟨_,hs,?A3⟩
  .exact(hs.2 b (Ym ?HN)).trans ?Je
  .obtain⟨sl,e1⟩:=I.base.slot b o e n hb hx;exact⟨sl,(hs.2 b (Ym ?HN)).trans e1⟩
  .obtain⟨o',e1⟩:=I.base.there b o e hx;exact⟨o',(hs.2 b (Ym ?HN)).trans e1⟩
  .by_cases hj:j=i
   .subst hj;rw[hi] at e1;cases e1;rw[List.getElem?_set_self hiσ] at e2;cases e2;exact⟨u,r,.inl ⟨hk,by simp⟩⟩
   .rw[qM (Ne.symm hj)] at e2;obtain⟨u',r',q⟩:=hl j y v' e1 e2 e3;refine⟨u',r',?_⟩;rcases q with ⟨k,e⟩|⟨k,c,e,z⟩
    .refine .inl ⟨k,?_⟩;have:y≠x:=fun e=>hj (eI hN e1 (e▸hi));simp[this,e]
    .exact .inr ⟨k,c,e,?Nj⟩
  .obtain⟨w',z⟩:=I.cell y c e;exact⟨w',?Nj⟩
  .obtain⟨e,n,ne,nf,d⟩:=I.pin p hp;exact⟨(hs.2 p.1 ne).trans e,n,ne,nf,d⟩
 .have hfn:X.fn x=true:=by
   rcases hf with z|z
   .exact z
   .rw[z] at hk;cases hk
  obtain⟨c,hc⟩:=I.ok.has x (.inl hk);obtain⟨w',z⟩:=I.cell x c hc;refine wpAny_storeName_cell I.ok.kind hk hc z (fun h' hc' hs=>?_);obtain⟨oc,hoc,hocd⟩:=id z;refine h {s with heap:=h'} ⟨I.ok,I.os,?Cc,⟨fun b o e n hb hx=>?_,fun b o e n hb hx=>?_,I.base.free,fun b o e hx=>?_,I.base.tups,I.base.frzs,I.base.tbls⟩,⟨m,hn.sameBut hs (Ne.symm (cne x c hc)),fun j y v' e1 e2 e3=>?_⟩,fun y c' e=>?_,?EN,?Gr,fun p hp=>?_,tracked ⟨oc,hoc,I.freeC x c hc⟩ hs,by simpa using I.len⟩ ⟨c,hs,.inr hc⟩
  .exact(hs.2 b ?JC).trans ?Je
  .obtain⟨sl,e1⟩:=I.base.slot b o e n hb hx;exact⟨sl,(hs.2 b ?JC).trans e1⟩
  .obtain⟨o',e1⟩:=I.base.there b o e hx;exact⟨o',(hs.2 b ?JC).trans e1⟩
  .by_cases hj:j=i
   .subst hj;rw[hi] at e1;cases e1;rw[List.getElem?_set_self hiσ] at e2;cases e2;exact⟨u,r,.inr ⟨.inl hk,c,hc,hc'⟩⟩
   .rw[qM (Ne.symm hj)] at e2;obtain⟨u',r',q⟩:=hl j y v' e1 e2 e3;refine⟨u',r',?_⟩;rcases q with q|⟨k,c',e,z'⟩
    .exact ?Bk
    .refine .inr ⟨k,c',e,z'.sameBut hs ?_⟩;rintro rfl;exact hj (eI hN e1 (I.ok.inj _ _ _ e hc▸hi))
  .by_cases hcc:c'=c
   .subst hcc;exact⟨_,hc'⟩
   .obtain⟨w2,z2⟩:=I.cell y c' e;exact⟨w2,z2.sameBut hs hcc⟩
  .obtain⟨e,n,ne,nf,d⟩:=I.pin p hp;refine⟨(hs.2 p.1 ?_).trans e,n,ne,nf,d⟩;intro q;rw[q,hoc] at e;have q':oc=p.2:=Option.some.inj e;exact d w' (by rw[←q'];exact hocd)
theorem fC(I:?A8)(hN:?CC)(hi:?zF)(hx:?DL)(r:?EO)
  (h:∀ s',Inv X pins ?HX H s'->Q () s') (hf:?yN:=by first|exact .inl rfl|exact .inr rfl|assumption):?Mr:=
 ap I hN hi hx r (fun s' I' _=>h s' I') hf
theorem Inv.call'(I:?A8)(ho:s'.os=s.os)(u:Un (frs X.stack) ch H H' s.heap s'.heap)(hok:HOk X.prog X.w H' s'.heap)(hg:AllBare s'.gens)
  (hch:∀ b∈ch,?kL/\b≠X.env.locals/\?kF/\∀ p∈X.pn++pins,p.1≠b):?HT:=by
 obtain⟨h',g',d',t',o'⟩:=s';have e:o'=s.os:=ho;subst e;exact I.call (g':=g') (t':=t') (d':=d') u hok hg hch
end
abbrev XK:=Value->Option Addr->Hp->Prop
abbrev St:=List ?Iw
abbrev VK:=V->Hp->Prop
abbrev TE:=St->Hp->VK->Prop
abbrev TT:=St->Hp->(Bool->Hp->Prop)->Prop
abbrev TA:=St->Hp->(List V->Hp->Prop)->Prop
structure Ends where
 nx:St->Hp->Prop
 rt:VK
 bk:St->Hp->Prop:=fun _ _=>False
 ct:St->Hp->Prop:=fun _ _=>False
abbrev TS:=Ends->St->Hp->Prop
inductive EP (X:Cx)(pins:?Q)(σ:St)(Q:VK)(u:?AK)(s':?AI):Prop
 |mk (v:V) (H':Hp) (i:?HT) (r:?EO) (q:Q v H')
inductive TP (X:Cx)(pins:?Q)(σ:St)(Q:Bool->Hp->Prop)(b:Bool)(s':?AI):Prop
 |mk (H':Hp) (i:?HT) (q:Q b H')
inductive AP (X:Cx)(pins:?Q)(σ:St)(Q:List V->Hp->Prop)(us:?AX)(s':?AI):Prop
 |mk (vs:?AL) (H':Hp) (i:?HT) (r:?It) (q:Q vs H')
def SP (X:Cx)(pins:?Q)(D:Ends)(f:Flow)(s':?AI):Prop:=
 match f with
 |.next=>∃ σ' H',Inv X pins σ' H' s'/\D.nx σ' H'
 |.brk=>∃ σ' H',Inv X pins σ' H' s'/\D.bk σ' H'
 |.cont=>∃ σ' H',Inv X pins σ' H' s'/\D.ct σ' H'
 |.ret u=>∃ v σ' H',Inv X pins σ' H' s'/\YV v u/\D.rt v H'
def PE (X:Cx)(e:Expr)(t:TE):Prop:=
 ∀ (pins:List (Addr×Obj)) (s:Shared) (σ:St) (H:Hp) (Q:VK),Inv X pins σ H s->t σ H Q->wpAny ?AD X.A ?Cj ?Bn X.xe s
def PT (X:Cx)(e:Expr)(t:TT):Prop:=
 ∀ (pins:List (Addr×Obj)) (s:Shared) (σ:St) (H:Hp) (Q:Bool->Hp->Prop),Inv X pins σ H s->t σ H Q->wpAny ?AD X.A ?P5 ?G0 X.xe s
def PW (X:Cx)(e:Expr)(t:TT):Prop:=
 ∀ (whole:Sem Value) (pins:List (Addr×Obj)) (s:Shared) (σ:St) (H:Hp) (Q:Bool->Hp->Prop),Inv X pins σ H s->t σ H Q->wpAny ?AD X.A (isTrue e X.env whole) ?G0 X.xe s
theorem PW.pt(h:PW X e t):PT X e t:=h _
def PA (X:Cx)(es:?AW)(t:TA):Prop:=
 ∀ (pos:Pos) (pins:List (Addr×Obj)) (s:Shared) (σ:St) (H:Hp) (Q:List V->Hp->Prop),Inv X pins σ H s->t σ H Q->wpAny ?AD X.A (spliced ?Km) (AP X pins σ Q) X.xe s
def PS (X:Cx)(st:Stmt)(t:TS):Prop:=
 ∀ (pins:List (Addr×Obj)) (s:Shared) (σ:St) (H:Hp) (D:Ends),Inv X pins σ H s->t D σ H->wpAny ?AD X.A (exec st X.env) ?Lj X.xe s
def PSs (X:Cx)(st:?Aw)(t:TS):Prop:=
 ∀ (pins:List (Addr×Obj)) (s:Shared) (σ:St) (H:Hp) (D:Ends),Inv X pins σ H s->t D σ H->wpAny ?AD X.A (execs st X.env) ?Lj X.xe s
theorem thn(h:wpAny M A t Q E s)(hQ:∀ a s,Q a s->Q' a s):wpAny M A t Q' E s:=qa h hQ fun _ _ x=>x
section
def HF (i:Nat):TE:=fun σ H Q=>∃ v,σ[i]?=some ?CY/\Q v H
def tC (v:V):TE:=fun _ H Q=>Q v H
theorem xb(hN:?zF)(hv:?Em)(hd:?L:=by decide)(hcd:?jO:=by decide):PE X ?Do (HF i):=by
 intro pins s σ H Q I h;obtain⟨v,e,h⟩:=h;obtain⟨m,hn,hl⟩:=I.loc;obtain⟨u,r,l⟩:=hl i x v hN e hv;have fin:EP X pins σ Q u s:=⟨v,H,I,r,h⟩
 rcases l with ⟨hk,hm⟩|⟨hk,c,hc,hcell⟩
 .exact wpAny_Name (wpAny_loadName_local I.ok.kind hk hn hm fin) hd
 .rcases hk with hk|hk
  .exact wpAny_Name (wpAny_loadName_cell I.ok.kind hk hc hcell fin) hd
  .exact wpAny_Name (wpAny_loadName_free I.ok.kind hk hc hcell fin hcd) hd
theorem Vy:PE X (.Constant (.int i) j pos) (tC (.int i)):=fun _ _ _ H _ I h=>wpAny_Constant_int ⟨.int i,H,?Ax,⟨_,rfl⟩,h⟩
theorem Hm:PE X (.Constant (.bool b) j pos) (tC (.bl b)):=fun _ _ _ H _ I h=>Constant_bool ⟨.bl b,H,I,rfl,h⟩
theorem GE:PE X (.Constant (.str x) j pos) (tC (.str x)):=fun _ _ _ H _ I h=>Calls.Constant_str ⟨.str x,H,?Ax,⟨_,rfl⟩,h⟩
def Gl (X:Cx)(x:Str):Prop:=X.env.kindOf x=some .globalImplicit
theorem b8(I:?A8)(hg:?Ai)(hm:X.mg x=some u)(h:Q u s)
  (hd:?L:=by decide):?Mu:=
 Calls.Name_function_global I.ok.kind hg (Calls.loadGlobal_global (by rw[I.ok.glob];exact ?HJ) hm h) hd
theorem Vv(I:?A8)(hg:?Ai)(hm:X.mg x=none)(hv:bootBuiltins x=some u)(h:Q u s)
  (hn:x ≠ "__name__" :=by decide) (hd:?L:=by decide):?Mu:=by
 obtain⟨mb,h1,h2⟩:=I.mod.blt;exact Calls.Name_function_global I.ok.kind hg (Calls.loadGlobal_builtin (by rw[I.ok.glob];exact ?HJ) hm (by rw[I.ok.blt];exact h1.keeps I.bk) ((h2 x hn).trans hv) h) hd
theorem Du(hg:?Ai)(hm:X.mg x=some u)(r:?EO)(hd:?L:=by decide):PE X ?Do (tC v):=
 fun _ _ _ H _ I h=>b8 I hg hm ⟨v,H,I,r,h⟩ hd
variable {ta tb:TE}
def tB (t:TE):TT:=fun σ H Q=>t σ H fun x H1=>∃ c,x=.bl c/\Q c H1
theorem ES(h:PE X e t)(he:∀ whole,isTrue e X.env whole=(do let v ←whole;standAt e.pos;holding [v] (truthy v)):=by intro _;rfl):PT X e (tB t):=by
 intro pins s σ H Q I hw;refine isTrue_plain (thn ?OT fun v s1 ⟨x,H1,I1,r1,q1⟩=>?_) (he _);obtain⟨d,rfl,q⟩:=q1;cases r1;exact qL ⟨H1,I1,q⟩
def IP (t u:TT):TT:=fun σ H Q=>t σ H fun c H1=>if c=true then u σ H1 Q else Q false H1
def tOr (t u:TT):TT:=fun σ H Q=>t σ H fun c H1=>if c=true then Q true H1 else u σ H1 Q
def ID (t:TT):TT:=fun σ H Q=>t σ H fun c H1=>Q (!c) H1
theorem CZ (ha:?Gb):PW X (.BoolOp .And [a] pos) tA:=by
 intro wh pins s σ H Q I h;refine isTrue_and (thn ?OS fun c s1 e=>?_);cases c with
 |true=>exact isTrue_and_nil e
 |false=>exact e
theorem Gh (ha:?Gb):PW X (.BoolOp .Or [a] pos) tA:=by
 intro wh pins s σ H Q I h;refine isTrue_or (thn ?OS fun c s1 e=>?_);cases c with
 |false=>exact isTrue_or_nil e
 |true=>exact e
theorem Ar (ha:?Gb)(hb:PW X ?kY tB'):PW X ?kT (IP tA tB'):=by
 intro wh pins s σ H Q I h;refine isTrue_and (thn ?DD fun c s1 ⟨H1,I1,q1⟩=>?_);cases c with
 |true=>exact ?NL
 |false=>exact⟨H1,I1,q1⟩
theorem Eo (ha:?Gb)(hb:PW X (.BoolOp .Or (b::rest) pos) tB'):PW X (.BoolOp .Or (a::b::rest) pos) (tOr tA tB'):=by
 intro wh pins s σ H Q I h;refine isTrue_or (thn ?DD fun c s1 ⟨H1,I1,q1⟩=>?_);cases c with
 |true=>exact⟨H1,I1,q1⟩
 |false=>exact ?NL
theorem ET (ha:?Gb):PT X (.UnaryOp .Not a pos) (ID tA):=by
 intro pins s σ H Q I h;exact isTrue_not (thn (ha pins s σ H (fun c H1=>Q (!c) H1) I h) fun _ _ ⟨H1,I1,q⟩=>⟨H1,I1,q⟩)
def G5 (ta tb:TE):TE:=fun σ H Q=>ta σ H fun x H1=>∃ c,x=.bl c/\if c=true then tb σ H1 Q else Q ?FL H1
def II (ta tb:TE):TE:=fun σ H Q=>ta σ H fun x H1=>∃ c,x=.bl c/\if c=true then Q ?EG H1 else tb σ H1 Q
theorem Fp(h:PE X a t):PE X (.BoolOp op [a] pos) t:=fun pins s σ H Q I hw=>BoolOp_one (h pins s σ H Q I hw)
theorem tV (ha:?Ct)(hb:PE X ?kY tb):PE X ?kT (G5 ta tb):=by
 intro pins s σ H Q I h;refine BoolOp_and (thn ?DD fun v s1 ⟨x,H1,I1,r1,q1⟩=>?_);obtain⟨c,rfl,q1⟩:=q1;cases r1;refine qL ?_;cases c with
 |true=>exact ?JS
 |false=>exact⟨?FL,H1,I1,rfl,q1⟩
theorem Ej (ha:?Ct)(hb:PE X (.BoolOp .Or (b::rest) pos) tb):PE X (.BoolOp .Or (a::b::rest) pos) (II ta tb):=by
 intro pins s σ H Q I h;refine BoolOp_or (thn ?DD fun v s1 ⟨x,H1,I1,r1,q1⟩=>?_);obtain⟨c,rfl,q1⟩:=q1;cases r1;refine qL ?_;cases c with
 |false=>exact ?JS
 |true=>exact⟨.bl true,H1,I1,rfl,q1⟩
def tIf (t:TT)(ta tb:TE):TE:=fun σ H Q=>t σ H fun c H1=>if c=true then ta σ H1 Q else tb σ H1 Q
theorem fi(hc:PT X c tA)(ha:?Ct)(hb:?E8):PE X (.IfExp c a b pos) (tIf tA ta tb):=by
 intro pins s σ H Q I h;refine wpAny_IfExp (thn ?OR fun d s1 ⟨H1,I1,q1⟩=>?_);cases d with
 |true=>exact ha pins s1 σ H1 Q I1 q1
 |false=>exact ?JS
end
def SqL (K:?A1)(H:Hp)(a:Addr)(xs:?AL):Prop:=
 Rd H a ?Aa ∨
  ∃ (o:Obj) (its:Array Value) (n:Nat),K.lookup a=some o/\o.cls=.type "list" /\ o.dict=none/\o.data=.seq its n/\its.size<=sizeLine/\qc xs its.toList
def SqT (K:?A1)(H:Hp)(a:Addr)(xs:?AL):Prop:=
 Rd H a ?BN ∨
  ∃ (o:Obj) (its:Array Value) (n:Nat),K.lookup a=some o/\o.cls=.type "tuple" /\ o.data=.seq its n/\its.size<=sizeLine/\qc xs its.toList
def IG:Value->Option V
 |.none=>some .non
 |.bool b=>some (.bl b)
 |.int i _=>some ?Ca
 |.str x _=>some ?Ce
 |.bytes b _=>some (.byt b)
 |.float b _=>some (.flt b)
 |.ref a=>some ?AB
 |.type n=>some (.ty n)
 |_=>none
theorem YV.abs(r:YV x u):IG u=some x:=by
 cases x with
 |non=>cases r;rfl
 |bl _=>cases r;rfl
 |int _=>obtain⟨t,rfl⟩:=r;rfl
 |str _=>obtain⟨t,rfl⟩:=r;rfl
 |byt _=>obtain⟨t,rfl⟩:=r;rfl
 |flt _=>obtain⟨t,rfl⟩:=r;rfl
 |ref _=>cases r;rfl
 |ty _=>cases r;rfl
theorem YV.inj(r:YV x u)(q:?Cb):x=y:=Option.some.inj (r.abs.symm.trans q.abs)
theorem qc.inj:∀ {xs ys:List V} {us:List Value},qc xs us->qc ys us->xs=ys
 |_,_,_,.nil,.nil=>rfl
 |_,_,_,.cons r t,.cons r' t'=>by rw[r.inj r',qc.inj t t']
section
theorem SqL.of {K:?A1}(h:H a=some ?Aa):SqL K H a xs:=.inl (.inl h)
theorem Inv.list (I:?A8)(h:?Hr):∃ its:List Value,qc xs its/\PlainL s.heap a its.toArray/\xs.length<=sizeLine:=by
 rcases h with h|⟨o,its,n,hk,hc,hd,hs,hz,r⟩
 .obtain⟨z,its,n,r,e⟩:=h.ok I.hok;exact⟨its,r,⟨_,n,e,rfl,rfl,rfl⟩,z⟩
 .refine⟨its.toList,r,⟨o,n,I.kIn a o hk,hc,hd,by simpa using hs⟩,?_⟩;have e:=r.length;simp only[Array.length_toList] at e;lia
theorem Inv.tuple (I:?A8)(h:?Hq):∃ its:List Value,qc xs its/\IsTup s.heap a its.toArray/\xs.length<=sizeLine:=by
 rcases h with h|⟨o,its,n,hk,hc,hs,hz,r⟩
 .obtain⟨z,its,r,p⟩:=h.ok I.hok;exact⟨its,r,p,z⟩
 .refine⟨its.toList,r,⟨o,I.kIn a o hk,hc,n,by simpa using hs⟩,?_⟩;have e:=r.length;simp only[Array.length_toList] at e;lia
theorem Inv.list_inj (I:?A8)(h:?Hr)(h':SqL X.K H a ys):xs=ys:=by
 obtain⟨its,r,⟨o,n,e,_,_,d⟩,_⟩:=I.list h;obtain⟨its',r',⟨o',n',e',_,_,d'⟩,_⟩:=I.list h';rw[e] at e';cases e';rw[d] at d';injection d' with d1 _;have:its=its':=by simpa using congrArg Array.toList d1
 subst this;exact r.inj r'
theorem Inv.tuple_inj (I:?A8)(h:?Hq)(h':SqT X.K H a ys):xs=ys:=by
 obtain⟨its,r,⟨o,e,_,n,d⟩,_⟩:=I.tuple h;obtain⟨its',r',⟨o',e',_,n',d'⟩,_⟩:=I.tuple h';rw[e] at e';cases e';rw[d] at d';injection d' with d1 _;have:its=its':=by simpa using congrArg Array.toList d1
 subst this;exact r.inj r'
end
abbrev Cx.wish (X:Cx)(E:?M):Cx:={X with xe:=E}
abbrev Cx.nox (X:Cx):Cx:=X.wish fun _ _=>False
theorem Cx.Ok.wish {X:Cx}(ok:X.Ok)(E:?M):(?Iv).Ok:=
 ?MJ
theorem Cx.Ok.unwish {X:Cx}{E:?M}(ok:(?Iv).Ok):X.Ok:=
 ?MJ
section
theorem Inv.wish (I:?A8)(E:?M):?NV:=⟨I.ok.wish E,I.os,?Cc,I.base,I.loc,?FV,?EN,?Gr,I.pin,I.hok,I.len⟩
theorem Inv.unwish (I:?NV):?A8:=⟨I.ok.unwish,I.os,?Cc,I.base,I.loc,?FV,?EN,?Gr,I.pin,I.hok,I.len⟩
theorem SP.unwish {D:Ends}(h:SP ?Iv pins D f s'):SP X pins D f s':=by
 cases f with
 |next=>obtain⟨σ',H',I,q⟩:=h;exact ?JT
 |brk=>obtain⟨σ',H',I,q⟩:=h;exact ?JT
 |cont=>obtain⟨σ',H',I,q⟩:=h;exact ?JT
 |ret u=>obtain⟨v,σ',H',I,r,q⟩:=h;exact⟨v,σ',H',I.unwish,r,q⟩
theorem PSs.nox {st:?Aw}{t:TS}(h:PSs X.nox st t):PSs X st t:=fun pins s σ H D I hw=>
 qa (h pins s σ H D (I.wish _) hw) (fun _ _ q=>q.unwish) fun _ _ z=>False.elim z
end
section
variable {X:Cx}{st:Stmt}{rest:?Aw}{t u:TS}{e:Expr}{te:TE}{pos:Pos}
def HU:TS:=fun D σ H=>D.nx σ H
def IU (t u:TS):TS:=fun D σ H=>t {D with nx:=u D} σ H
theorem B9:PSs X [] HU:=fun _ _ σ H _ I h=>wpAny_execs_nil ⟨σ,H,I,h⟩
theorem qd (h1:PS X st t)(h2:PSs X rest u):PSs X (st::rest) (IU t u):=by
 intro pins s σ H D I h;refine wpAny_execs_cons (thn (h1 pins s σ H {D with nx:=u D} I h) fun f s1 q=>?_);cases f with
 |next=>
  obtain⟨σ',H',I',q⟩:=q;exact h2 pins s1 σ' H' D I' q
 |ret v=>exact q
 |brk=>exact q
 |cont=>exact q
theorem mE (h1:PS X st t):PSs X [st] t:=by
 intro pins s σ H D I h;refine wpAny_execs_cons (thn (h1 pins s σ H D I h) fun f s1 q=>?_);cases f with
 |next=>exact wpAny_execs_nil q
 |ret v=>exact q
 |brk=>exact q
 |cont=>exact q
theorem Inv.quiet(I:?A8):interactive X.env=false:=by simp[interactive,I.ok.kind]
def fK (te:TE):TS:=fun D σ H=>te σ H fun _ H1=>D.nx σ H1
theorem Kq (he:?EA)(hs:?uU:=by rfl):PS X (.Expr e pos) (fK te):=by
 intro pins s σ H D I h;exact wpAny_Expr_any (thn ?DF fun v s1 ⟨x,H1,I1,r1,q1⟩=>⟨σ,H1,I1,q1⟩) I.quiet hs
def IR (te:TE):TS:=fun D σ H=>te σ H D.rt
theorem bW (he:?EA):PS X (.Return ?D1 pos) (IR te):=by
 intro pins s σ H D I h;exact wpAny_Return_some (thn ?DF fun v s1 ⟨x,H1,I1,r1,q1⟩=>⟨x,σ,H1,I1,r1,q1⟩)
def IY (c:TT)(t u:TS):TS:=fun D σ H=>c σ H fun b H1=>if b=true then t D σ H1 else u D σ H1
theorem Aa(hc:PT X c tc)(ha:PSs X a t)(hb:PSs X b u):PS X (.If c a b pos) (IY tc t u):=by
 intro pins s σ H D I h;refine wpAny_If (thn ?OR fun d s1 ⟨H1,I1,q1⟩=>?_);cases d with
 |true=>exact ha pins s1 σ H1 D I1 q1
 |false=>exact hb pins s1 σ H1 D I1 q1
def FF:TS:=fun _ _ _=>False
theorem Kp:PSs X sts FF:=fun _ _ _ _ _ _ h=>h.elim
end
abbrev TG:=V->St->Hp->(St->Hp->Prop)->Prop
abbrev TGs:=List V->St->Hp->(St->Hp->Prop)->Prop
def PG (X:Cx)(target:Expr)(t:TG):Prop:=
 ∀ (pins:List (Addr×Obj)) (s:Shared) (σ:St) (H:Hp) (v:V) (u:Value) (Q:St->Hp->Prop),Inv X pins σ H s->YV v u->t v σ H Q->
  wpAny ?AD X.A (assign target X.env u) ?kB X.xe s
def PGs (X:Cx)(ts:?AW)(t:TGs):Prop:=
 ∀ (pins:List (Addr×Obj)) (s:Shared) (σ:St) (H:Hp) (vs:List V) (us:List Value) (Q:St->Hp->Prop),Inv X pins σ H s->qc vs us->t vs σ H Q->
  wpAny ?AD X.A (assignInOrder ((assignEach ts X.env).map ?zC) us) ?kB X.xe s
abbrev Cy:=V->V->V->Hp->(Hp->Prop)->Prop
def FG (X:Cx)(t:Cy):Prop:=
 ∀ (pins:List (Addr×Obj)) (s:Shared) (σ:St) (H:Hp) (o i v:V) (ov iv u:Value) (Q:Hp->Prop),Inv X pins σ H s->YV o ov->YV i iv->YV v u->t o i v H Q->
  wpAny ?AD X.A (setItem ov iv u) (fun _ s'=>∃ H',Inv X pins σ H' s'/\Q H') X.xe s
section
def XF (i:Nat):TG:=fun v σ H Q=>Q ?HX H
theorem Dp(hN:?CC)(hi:?zF)(hx:?DL)(hf:?yN:=by first|exact .inl rfl|exact .inr rfl|assumption):PG X ?Do (XF i):=by
 intro pins s σ H v u Q I r h;exact wpAny_assign_Name (fC I hN hi hx r (fun s' I'=>⟨_,H,I',h⟩) hf)
def Lg:TGs:=fun vs σ H Q=>vs=[]/\Q σ H
def Ep (t:TG)(u:TGs):TGs:=fun vs σ H Q=>∃ v r,vs=v::r/\t v σ H fun σ' H'=>u r σ' H' Q
theorem Db:PGs X [] Lg:=by
 intro pins s σ H vs us Q I r h;obtain⟨e,h⟩:=h;subst e;cases r;exact assignInOrder_nil ⟨σ,H,I,h⟩
theorem Aj(h1:PG X e t)(h2:PGs X es u)
  (hs:(assignEach (e::es) X.env).map ?zC=assign e X.env::(?Jv).map ?zC:=by rfl):PGs X (e::es) (Ep t u):=by
 intro pins s σ H vs us Q I r h;obtain⟨v,vr,e1,h⟩:=h;subst e1;cases r with
 |cons r rr=>
  rw[hs];refine assignInOrder_cons (thn (h1 pins s σ H _ _ _ I r h) fun _ s1 ⟨σ1,H1,I1,q1⟩=>?_);exact h2 pins s1 σ1 H1 _ _ Q I1 rr q1
def IB (K:?A1)(n:Nat)(t:TGs):TG:=fun v σ H Q=>∃ a xs,v=.ref a/\SqT K H a xs/\xs.length=n/\t xs σ H Q
theorem Fh(hc:?Z)(h:PGs X es t)
  (hn:(?Jv).length=n:=by rfl) (hst:(?Jv).findIdx? ?C=none:=by rfl):PG X (.Tuple es k pos) (IB X.K n t):=by
 intro pins s σ H v u Q I r hw;obtain⟨a,xs,e1,hq,hl,hw⟩:=hw;subst e1;cases r;obtain⟨its,rv,ht,hz⟩:=I.tuple hq;refine assign_Tuple_tuple ?Bs ht (by simp[hn,←hl,rv.length]) hst fun h' hx=>?_;have I1:Inv X pins σ H {s with heap:=h'}:=I.kept (t':=?Ac) fun b o e=>hx b o ?J1 e;exact h pins _ σ H xs _ Q I1 (by simpa using rv) hw
def IJ (to ti:TE)(t:Cy):TG:=fun v σ H Q=>to σ H fun o H1=>ti σ H1 fun i H2=>t o i v H2 fun H3=>Q σ H3
theorem gh(ho:PE X o to)(hi:PE X i ti)(hs:FG X t)
  (ha:∀ v,assign ?Fr X.env v=(do
   let ov ←holding [v] (eval o X.env)
   let iv ←holding [v,ov] (eval i X.env)
   standAt pos
   holding [v,ov,iv] ?KU
   release [v,ov,iv] []):=by intro _;rfl):PG X ?Fr (IJ to ti t):=by
 intro pins s σ H v u Q I r h;rw[ha];refine ya (YA (thn ?HK fun ov s1 ⟨x,H1,I1,r1,q1⟩=>?_));refine ya (YA (thn ?Nt fun iv s2 ⟨y,H2,I2,r2,q2⟩=>?_));refine ya (wpAny_standAt (ya (YA (thn (hs pins s2 σ H2 x y v ov iv u _ I2 r1 r2 r q2) fun _ s3 ⟨H3,I3,q3⟩=>?_))));exact wpAny_release ⟨σ,H3,I3,q3⟩
def Fv (te:TE)(g:TG):TS:=fun D σ H=>te σ H fun x H1=>g x σ H1 D.nx
theorem bJ(he:?EA)(hg:PG X tg g)(hs:swapsWithSole [tg] e pos.line X.env=pure false:=by rfl)(hw:swappedStores [tg] e X.env=pure none:=by rfl)
  (h1:(assignEach [tg] X.env).map ?zC=[assign tg X.env]:=by rfl):PS X (.Assign [tg] e pos) (Fv te g):=by
 intro pins s σ H D I h;refine wpAny_Assign_stores (thn ?DF fun v s1 ⟨x,H1,I1,r1,q1⟩=>?_) hs hw;rw[h1];exact thn (hg pins s1 σ H1 x v _ I1 r1 q1) fun _ s2 q=>q
theorem gG(hN:?CC)(hi:?zF)(hx:?DL)(he:?EA)(hs:?vY:=by rfl)(hf:?yN:=by first|exact .inl rfl|exact .inr rfl|assumption) :
  PS X (.Assign [.Name x pos'] e pos) (Fv te (XF i)):=by
 intro pins s σ H D I h;refine wpAny_Assign_Name (thn ?DF fun v s1 ⟨y,H1,I1,r1,q1⟩=>?_) hs;exact fC I1 hN hi hx r1 (fun s2 I2=>⟨_,H1,I2,q1⟩) hf
end
section
def ER (c:TT)(tb:TS):TS:=fun D σ H=>∃ W:Nat->St->Hp->Prop,(∃ m,W m σ H)/\∀ m σ H,W m σ H->
 c σ H fun b H1=>if b=true then ∃ N:St->Hp->Prop,(∀ σ' H',N σ' H'->∃ m',m'<m/\W m' σ' H')/\tb {D with nx:=N,ct:=N,bk:=D.nx} σ H1 else D.nx σ H1
theorem rP {tb:TS}(hp:?Fk)(hc:PT X c tc)(hb:PSs X body tb):PS X (.While c body [] pos) (ER tc tb):=by
 intro pins s σ H D I h;obtain⟨W,⟨m0,w0⟩,turn⟩:=h;refine wpAny_While (codeAny_whileLoop (fun n s'=>∃ σ' H',Inv X pins σ' H' s'/\W n σ' H') ?_ m0 ⟨σ,H,I,w0⟩);rintro n s1 ⟨σ1,H1,I1,w1⟩;refine wpAny_passesOwn hp (thn (hc pins s1 σ1 H1 _ I1 (turn n σ1 H1 w1)) fun b s2 ⟨H2,I2,q2⟩=>?_);cases b with
 |true=>
  obtain⟨N,hN,q2⟩:=q2;rw[yf rfl];refine wpAny_passesOwn hp (thn (hb pins s2 σ1 H2 _ I2 q2) fun f s3 q3=>?_);cases f with
  |next=>
   obtain⟨σ3,H3,I3,n3⟩:=q3;obtain⟨m',hm,w3⟩:=hN σ3 H3 n3;exact ?Ni
  |cont=>
   obtain⟨σ3,H3,I3,n3⟩:=q3;obtain⟨m',hm,w3⟩:=hN σ3 H3 n3;exact ?Ni
  |brk=>exact q3
  |ret v=>exact q3
 |false=>
  rw[ye yV];exact wpAny_execs_nil ⟨σ1,H2,I2,q2⟩
end
structure It where
 go:Nat->Hp->Prop
 yld:Nat->Hp->V->Hp->Prop
 stop:Nat->Hp->Prop
def wz (X:Cx)(pins:?Q)(H:Hp)(b:Addr):Prop:=
 H b=none/\b≠X.env.locals/\b∉X.fs/\?kL/\?kF/\∀ p∈X.pn++pins,p.1≠b
theorem Inv.fpOk(I:?A8)(hb:s.heap.objs.size<=b)(hn:H' b=none):wz X pins H' b:=by
 refine⟨hn,QN (Yc I.lt hb),I.nofs hb,.inr (yU I.sz hb),fun x c e z=>?_,fun p hp z=>?_⟩
 .obtain⟨v,q⟩:=I.cell x c e;exact absurd (Yc q.lt (by rw[z];exact hb)) (jH _)
 .exact absurd (Yc (yu (I.pin p hp).1) (by rw[z];exact hb)) (jH _)
structure Turn (P:?A6)(w:?A5)(K:?A1)(tg:Expr)(J:It)(fp:?Ar)(it:Addr)(tn:Nat->Heap->Prop):Prop where
 mem:it∈fp
 obj:∀ i h,tn i h->∀ b∈fp,∃ o,h.get? b=some o/\∀ v,o.data≠.cell v
 keep:∀ i h h',tn i h->(∀ b∈fp,∀ o,h.get? b=some o->h'.get? b=some o)->tn i h'
 item:∀ (X:Cx),X.prog=P->X.w=w->X.K=K->X.calm=true->∀ (i:Nat) (pins:List (Addr×Obj)) (s:Shared) (σ:St) (H:Hp) (E:Value->Shared->Prop),Inv X pins σ H s->(∀ b∈fp,?Et)->tn i s.heap->J.go i H->
  wpAny ?Bc X.A ?Jb (fun r s1=>∃ u,r=some u/\
   wpAny ?Bc X.A ?N7 (fun _ s2=>∃ x H',Inv X pins σ H' s2/\YV x u/\J.yld i H x H'/\tn (i+1) s2.heap/\∀ b∈fp,H' b=none) E s1) E s
 done:∀ (X:Cx),X.prog=P->X.w=w->X.K=K->X.calm=true->∀ (i:Nat) (pins:List (Addr×Obj)) (s:Shared) (σ:St) (H:Hp) (E:Value->Shared->Prop),Inv X pins σ H s->(∀ b∈fp,?Et)->tn i s.heap->J.stop i H->
  wpAny ?Bc X.A ?Jb (fun r s1=>r=none/\Inv X pins σ H s1) E s
 self:∀ (A:Around) (i:Nat) (s:Shared) (Q:Value->Shared->Prop) (E:Value->Shared->Prop),tn i s.heap->Q ?EP s->wpAny ?Bc A (pyIter ?EP) Q E s
abbrev TI:=St->Hp->(It->Hp->Prop)->Prop
inductive PIE (X:Cx)(pins:?Q)(σ:St)(tg:Expr)(R:It->Hp->Prop)(itv:?AK)(s2:?AI):Prop
 |mk (it:Addr) (fp:?Ar) (tn:Nat->Heap->Prop) (J:It) (H':Hp) (e:itv=.ref it) (i:Inv X pins σ H' s2) (t:?NJ) (t0:tn 0 s2.heap) (f:∀ b∈fp,wz X pins H' b) (r:R J H')
def PI (X:Cx)(tg iter:Expr)(wi:TI):Prop:=
 ∀ (pins:List (Addr×Obj)) (s:Shared) (σ:St) (H:Hp) (R:It->Hp->Prop),Inv X pins σ H s->wi σ H R->
  wpAny ?AD X.A (eval iter X.env) (fun v s1=>?MV) X.xe s
theorem eJ(ho:s.heap.get? it=some o)(hc:o.cls=.type n)(hd:o.data=.fields vs)
    (hn:["enumerate", "zip", "dict_itemiterator", "dict_reverseitemiterator", "odict_iterator", "itertools.zip_longest", "itertools.pairwise"].contains n=false) (hQ:Q () s):wpAny M A ?N7 Q E s:=by
  unfold letOwnedTupleGo;cases tg <;> first
    |exact yj hQ
    | (cases u <;> first
        |exact yj hQ
        | (refine ya (wpAny_load ho ?_)
           rw[hc,hd];show wpAny M A (if (["enumerate", "zip", "dict_itemiterator", "dict_reverseitemiterator", "odict_iterator", "itertools.zip_longest", "itertools.pairwise"].contains n&&vs[0]?==some (rawInt _))=true then _ else _) Q E s;rw[ye (by intro h;rw[hn,Bool.false_and] at h;cases h)];exact yj hQ))
def Itl (K:?A1)(a:Addr):It:=
 ⟨fun i H=>∃ xs x,SqL K H a xs/\xs[i]?=some x,fun i H x H'=>H'=H/\∀ xs,SqL K H a xs->xs[i]?=some x,fun i H=>∃ xs,SqL K H a xs/\xs.length<=i⟩
def Itt (K:?A1)(a:Addr):It:=
 ⟨fun i H=>∃ xs x,SqT K H a xs/\xs[i]?=some x,fun i H x H'=>H'=H/\∀ xs,SqT K H a xs->xs[i]?=some x,fun i H=>∃ xs,SqT K H a xs/\xs.length<=i⟩
def Itr (lo:Int)(n:Nat):It:=⟨fun i _=>i<n,fun i H x H'=>H'=H/\x=.int (lo+i),fun i _=>n<=i⟩
theorem pb {P:?A6}{w:?A5}{K:?A1}{tg:Expr}(a it:Addr):Turn P w K tg (Itl K a) [it] it (fun i h=>h.IsListIter it a i) where
 mem:=by simp
 obj:=fun i h st b hb=>by
  have e:b=it:=by simpa using hb
  subst e;obtain⟨o,e,c,d⟩:=st;exact⟨o,e,fun v z=>by rw[d] at z;cases z⟩
 keep:=fun i h h' st k=>st.at fun o e=>k it (by simp) o e
 item:=by
  intro X hP hw hK hc i pins s σ H E I hf st hg;subst hP hw hK;obtain⟨xs,x,hq,hx⟩:=hg;obtain⟨its,rv,p,hz⟩:=I.list hq;obtain⟨u,hu,ru⟩:=rv.get hx;obtain⟨f0,f1,f2,f3,f4,f5⟩:=hf it (by simp);refine wpAny_pyNext_list_item st p.isList (x:=u) (by simpa using hu) fun h' st' sb=>?_;have I1:Inv X pins σ H {s with heap:=h'}:=I.turned (t':=?Ac) ?jJ f0 f1 f3 f4 f5;obtain⟨o,e,c,d⟩:=id st';exact⟨u,rfl,eJ (s:={s with heap:=h'}) e c d ?B ⟨x,H,I1,ru,⟨rfl,fun ys hy=>?tG⟩,st',fun b hb=>?yG⟩⟩
 done:=by
  intro X hP hw hK hc i pins s σ H E I hf st hg;subst hP hw hK;obtain⟨xs,hq,hx⟩:=hg;obtain⟨its,rv,p,hz⟩:=I.list hq;obtain⟨f0,f1,f2,f3,f4,f5⟩:=hf it (by simp);have hl:=rv.length;exact wpAny_pyNext_list_end ?Bs st p.isList ?qY fun h' eb=>?qF
 self:=fun _ _ _ _ _ st h=>wpAny_pyIter_listiter st h
theorem hU {P:?A6}{w:?A5}{K:?A1}{tg:Expr}(a it:Addr):Turn P w K tg (Itt K a) [it] it (fun i h=>h.IsTupleIter it a i) where
 mem:=by simp
 obj:=fun i h st b hb=>by
  have e:b=it:=by simpa using hb
  subst e;obtain⟨o,e,c,d⟩:=st;exact⟨o,e,fun v z=>by rw[d] at z;cases z⟩
 keep:=fun i h h' st k=>st.at fun o e=>k it (by simp) o e
 item:=by
  intro X hP hw hK hc i pins s σ H E I hf st hg;subst hP hw hK;obtain⟨xs,x,hq,hx⟩:=hg;obtain⟨its,rv,p,hz⟩:=I.tuple hq;obtain⟨u,hu,ru⟩:=rv.get hx;obtain⟨f0,f1,f2,f3,f4,f5⟩:=hf it (by simp);refine wpAny_pyNext_tuple_item st (show s.heap.IsTuple a its.toArray from p) (x:=u) (by simpa using hu) fun h' st' sb=>?_;have I1:Inv X pins σ H {s with heap:=h'}:=I.turned (t':=?Ac) ?jJ f0 f1 f3 f4 f5;obtain⟨o,e,c,d⟩:=id st';exact⟨u,rfl,eJ (s:={s with heap:=h'}) e c d ?B ⟨x,H,I1,ru,⟨rfl,fun ys hy=>by rw[I.tuple_inj hy hq];exact hx⟩,st',fun b hb=>?yG⟩⟩
 done:=by
  intro X hP hw hK hc i pins s σ H E I hf st hg;subst hP hw hK;obtain⟨xs,hq,hx⟩:=hg;obtain⟨its,rv,p,hz⟩:=I.tuple hq;obtain⟨f0,f1,f2,f3,f4,f5⟩:=hf it (by simp);have hl:=rv.length;exact wpAny_pyNext_tuple_end ?Bs st (show s.heap.IsTuple a its.toArray from p) ?qY fun h' eb=>?qF
 self:=fun _ _ _ _ _ st h=>wpAny_pyIter_tupleiter st h
theorem gY {P:?A6}{w:?A5}{K:?A1}{tg:Expr}(it:Addr)(lo:Int)(n:Nat):Turn P w K tg (Itr lo n) [it] it (fun i h=>IsRangeIter h it (lo+(i:Nat)*1) ((n:Int) - (i:Nat)) 1) where
 mem:=by simp
 obj:=fun i h st b hb=>by
  have e:b=it:=by simpa using hb
  subst e;exact⟨_,st,fun v z=>by
   have z':Data.fields _=Data.cell v:=z;cases z'⟩
 keep:=fun i h h' st k=>k it (by simp) _ st
 item:=by
  intro X hP hw hK hc i pins s σ H E I hf st hg;subst hP hw hK;obtain⟨f0,f1,f2,f3,f4,f5⟩:=hf it (by simp);have W:=Walks.range (prog:=X.prog) (w:=X.w) ?Bs it lo 1 n;refine W.item i s _ _ hg st fun v h' tk hv st' kk=>?_;obtain⟨t,rfl⟩:=hv;have I1:Inv X pins σ H {s with heap:=h',toks:=tk}:=I.turned (fun b o hb e=>kk b o (by simpa using hb) e) f0 f1 f3 f4 f5;refine⟨_,rfl,eJ (s:={s with heap:=h',toks:=tk}) (n:="range_iterator") st' rfl rfl ?B ⟨.int (lo+i),H,I1,⟨t,?_⟩,?DR,st',fun b hb=>?yG⟩⟩;rw[Int.mul_one]
 done:=by
  intro X hP hw hK hc i pins s σ H E I hf st hg;subst hP hw hK;obtain⟨f0,f1,f2,f3,f4,f5⟩:=hf it (by simp);exact wpAny_pyNext_range_end ?Bs st (by have:n<=i:=hg;lia) fun h' eb=>?qF
 self:=fun _ _ _ _ _ st h=>wpAny_pyIter_rangeiter st h
section
def Ib (K:?A1)(tl:TE):TI:=fun σ H R=>tl σ H fun x H1=>∃ a,x=.ref a/\(∃ xs,SqL K H1 a xs)/\R (Itl K a) H1
def Lb (K:?A1)(tl:TE):TI:=fun σ H R=>tl σ H fun x H1=>∃ a,x=.ref a/\(∃ xs,SqT K H1 a xs)/\R (Itt K a) H1
theorem cP {tl:TE}(hl:?Ij):PI X tg l (Ib X.K tl):=by
 intro pins s σ H R I h;refine thn ?HL fun v s1 ⟨x,H1,I1,r1,q1⟩=>?_;obtain⟨a,e,⟨xs,hq⟩,q⟩:=q1;subst e;cases r1;obtain⟨its,rv,p,hz⟩:=I1.list hq;refine wpAny_pyIter_list p.isList ?_;refine⟨?Ea,?jY,_,_,H1,rfl,I1.kept (t':=?Cy) fun b o e=>?At,pb a _,?Dh,fun b hb=>?_,q⟩;have e:b=s1.heap.objs.size:=by simpa using hb
 subst e;exact ?Dg
theorem Fd {tl:TE}(hl:?Ij):PI X tg l (Lb X.K tl):=by
 intro pins s σ H R I h;refine thn ?HL fun v s1 ⟨x,H1,I1,r1,q1⟩=>?_;obtain⟨a,e,⟨xs,hq⟩,q⟩:=q1;subst e;cases r1;obtain⟨its,rv,p,hz⟩:=I1.tuple hq;refine wpAny_pyIter_tuple (show s1.heap.IsTuple a its.toArray from p) ?_;refine⟨?Ea,?jY,_,_,H1,rfl,I1.kept (t':=?Cy) fun b o e=>?At,hU a _,?Dh,fun b hb=>?_,q⟩;have e:b=s1.heap.objs.size:=by simpa using hb
 subst e;exact ?Dg
theorem fF {pins:?Q}{σ:St}{H:Hp}{s:?AI}{R:It->Hp->Prop}{E:?M}{lo hi:Int}{t u v:Tok}{tk:Nat}(I:?A8)(h1:-(2 ^ 62)<=lo)(h2:lo<2 ^ 62)(h3:-(2 ^ 62)<=hi)(h4:hi<2 ^ 62)
  (q:R (Itr lo (hi - lo).toNat) H):wpAny ?AD X.A (pyIter ?Ef) ?PD E {s with heap:=?vW,toks:=tk}:=by
 refine wpAny_pyIter_range (IsRange.new ..) (small_one h1 h2 h3 h4) ?_;have I1:Inv X pins σ H {s with heap:=?vW,toks:=tk}:=I.kept fun b o e=>yv _ e;refine⟨(?vW).objs.size,[(?vW).objs.size],_,_,H,rfl,
  I1.kept (t':=tk) fun b o e=>?At,gY _ lo (hi - lo).toNat,?_,fun b hb=>?_,q⟩
 .have e1:lo+((0:Nat):Int)*1=lo:=by simp
  have e2:(((hi - lo).toNat:Nat):Int) - ((0:Nat):Int)=Builtin.Range.rangeSize lo hi 1:=by rw[rangeSize_one];split <;> lia
  show IsRangeIter _ _ (lo+((0:Nat):Int)*1) ((((hi - lo).toNat:Nat):Int) - ((0:Nat):Int)) 1;rw[e1,e2];exact ?CT
 .have e:b=(s.heap.push {cls:=.type "range", data:=?uZ}).objs.size:=by simpa using hb
  subst e;exact ?Dg
def Hn (ta:TA):TI:=fun σ H R=>ta σ H fun vs H1=>∃ j:Int,vs=[.int j]/\-(2 ^ 62)<=j/\j<2 ^ 62/\R (Itr 0 j.toNat) H1
def Ia (ta:TA):TI:=fun σ H R=>ta σ H fun vs H1=>∃ i j:Int,vs=[.int i,.int j]/\(-(2 ^ 62)<=i/\i<2 ^ 62/\-(2 ^ 62)<=j/\j<2 ^ 62)/\R (Itr i (?P).toNat) H1
theorem ah {ta:TA}(hg:?qV)(hm:?qM)(ha:PA X [a] ta)(hs:?jF:=by rfl):PI X tg ?kO (Hn ta):=by
 intro pins s σ H R I h;refine Call_ (Vv I hg hm boot_range (PyProof.Rows.callWith_type1 (thn ?Cf fun us s1 ⟨vs,H1,I1,r1,q1⟩=>?_) hs rfl));obtain⟨j,e,q1,q2,q⟩:=q1;subst e;cases r1 with
 |cons r rr=>
  cases rr;obtain⟨t,rfl⟩:=r;exact call_range_1 (fF I1 ?A ?A q1 q2 (by simpa using q))
theorem nT(hg:?qV)(hm:?qM)(ha:PA X [a,b] ta)(hs:?jE:=by rfl)(hs2:?jN:=by rfl) :
  PI X tg ?tE (Ia ta):=by
 intro pins s σ H R I h;refine Call_ (Vv I hg hm boot_range (PyProof.Rows.callWith_type1 (thn ?Cf fun us s1 ⟨vs,H1,I1,r1,q1⟩=>?_) (by rw[hs,hs2]) (by rw[hs2];rfl)));obtain⟨i,j,e,⟨q1,q2,q3,q4⟩,q⟩:=q1;subst e;cases r1 with
 |cons r rr=>
  cases rr with
  |cons r' rr=>
   cases rr;obtain⟨t,rfl⟩:=r;obtain⟨t',rfl⟩:=r';exact call_range_2 (fF I1 q1 q2 q3 q4 q)
def Lf (wi:TI)(g:TG)(tb:TS):TS:=fun D σ H=>wi σ H fun J H1=>∃ W:Nat->Nat->St->Hp->Prop,(∃ m,W 0 m σ H1)/\∀ i m σ H,W i m σ H->
 (J.stop i H/\D.nx σ H)∨(J.go i H/\∃ N:St->Hp->Prop,(∀ σ' H',N σ' H'->∃ m',m'<m/\W (i+1) m' σ' H')/\∀ x H',J.yld i H x H'->g x σ H' fun σ2 H2=>tb {D with nx:=N,ct:=N,bk:=D.nx} σ2 H2)
def Wm (fp:?Ar)(h:Heap):?Q:=fp.filterMap fun b=>(h.get? b).map fun o=>(b,o)
theorem Vx(hb:b∈fp)(e:h.get? b=some o):(b,o)∈Wm fp h:=List.mem_filterMap.mpr ⟨b,hb,by rw[e];rfl⟩
theorem pH(hp:p∈Wm fp h):p.1∈fp/\h.get? p.1=some p.2:=by
 obtain⟨b,hb,e⟩:=List.mem_filterMap.mp hp;cases q:h.get? b with
 |none=>rw[q] at e;cases e
 |some o=>
  rw[q] at e;have e':(b,o)=p:=Option.some.inj e;subst e';exact⟨hb,q⟩
theorem Inv.pinned(I:?A8)(hf:∀ b∈fp,?Et)(ho:∀ b∈fp,∃ o,s.heap.get? b=some o/\∀ v,o.data≠.cell v):Inv X (pins++Wm fp s.heap) σ H s:=
 I.pins_of fun p hp=>(?J3).elim (fun z=>I.pin p ?EQ) fun z=>by
  obtain⟨hb,e⟩:=pH z;obtain⟨f0,f1,f2,_⟩:=hf p.1 hb;obtain⟨o,e',d⟩:=ho p.1 hb;rw[e] at e';cases e';exact⟨e,f0,f1,f2,d⟩
theorem Inv.unpinned(I:Inv X (pins++pl) σ H s):?A8:=I.pins_of fun p hp=>I.pin p (yF _ ?Gu)
theorem AM {tb:TS}(hp:?Fk)(hc:?Z)(hi:?Kg)(hg:PG X tg g)(hb:PSs X body tb)
  (hs:∀ x,foldedSetIterable iter X.env x=pure x:=by intro _;rfl):PS X (.For tg iter body [] pos) (Lf wi g tb):=by
 intro pins s σ H D I h;refine wpAny_For (thn ?Jm fun v s1 h1=>thn h1 fun itv s2 h2=>?_) hs;obtain⟨it,fp,tn,J,H2,e,I2,T,st2,f2,W,⟨m0,w0⟩,turn⟩:=h2;subst e
 -- what stays true of the iterator's objects through the loop
 have stat:∀ {H':Hp},?jS->∀ b∈fp,wz X pins H' b:=fun hn b hb=>⟨hn b hb,(f2 b hb).2⟩
 refine codeAny_forLoop_any (fun n s'=>∃ i σ' H',Inv X pins σ' H' s'/\tn i s'.heap/\?jS/\W i n σ' H') ?_ m0 ⟨0,σ,H2,I2,st2,fun b hb=>(f2 b hb).1,w0⟩;rintro n s3 ⟨i,σ3,H3,I3,st3,fr3,w3⟩;rcases turn i n σ3 H3 w3 with ⟨stop,qn⟩|⟨go,N,hN,step⟩
 .refine wpAny_passesOwn hp (thn (T.done X rfl rfl rfl hc i pins s3 σ3 H3 X.xe I3 (stat fr3) st3 stop) fun r s4 ⟨hr,I4⟩=>?_);subst hr;exact wpAny_execs_nil ⟨σ3,H3,I4,qn⟩
 .refine wpAny_passesOwn hp (thn (T.item X rfl rfl rfl hc i pins s3 σ3 H3 X.xe I3 (stat fr3) st3 go) fun r s4 ⟨u,hr,h4⟩=>?_);subst hr;refine wpAny_passesOwn hp (thn h4 fun _ s5 ⟨x,H5,I5,r5,y5,st5,fr5⟩=>?_);have I5':=I5.pinned (stat fr5) (T.obj _ _ st5);refine wpAny_passesOwn hp (thn (hg _ s5 σ3 H5 x u _ I5' r5 (step x H5 y5)) fun _ s6 ⟨σ6,H6,I6,q6⟩=>?_);refine wpAny_passesOwn hp (thn (hb _ s6 σ6 H6 _ I6 q6) fun f s7 q7=>?_);have again:∀ {σ7:St} {H7:Hp},Inv X (pins++Wm fp s5.heap) σ7 H7 s7->N σ7 H7->∃ m,m<n/\∃ i σ' H',Inv X pins σ' H' s7/\tn i s7.heap/\?jS/\W i m σ' H':=fun {σ7 H7} I7 n7=>by
   obtain⟨m',hm,w7⟩:=hN σ7 H7 n7;refine⟨m',hm,i+1,σ7,H7,?Lm,T.keep _ _ _ st5 fun b hb o e=>(I7.pin (b,o) ?Hu).1,fun b hb=>?_,w7⟩;obtain⟨o,e,d⟩:=T.obj _ _ st5 b hb;exact(I7.pin (b,o) ?Hu).2.1
  cases f with
  |next=>obtain⟨σ7,H7,I7,n7⟩:=q7;exact again I7 n7
  |cont=>obtain⟨σ7,H7,I7,n7⟩:=q7;exact again I7 n7
  |brk=>obtain⟨σ7,H7,I7,q7⟩:=q7;exact⟨σ7,H7,?Lm,q7⟩
  |ret v=>obtain⟨x7,σ7,H7,I7,r7,q7⟩:=q7;exact⟨x7,σ7,H7,?Lm,r7,q7⟩
end
abbrev R2:=V->V->Hp->VK->Prop
def OpR (X:Cx)(f:?vB)(r:R2):Prop:=
 ∀ (pins:List (Addr×Obj)) (s:Shared) (σ:St) (H:Hp) (x y:V) (v u:Value) (Q:VK),Inv X pins σ H s->YV x v->YV y u->r x y H Q->
  wpAny ?AD X.A (f v u) ?Bn X.xe s
def V5 (X:Cx)(f:?AK)(r:?xJ):Prop:=
 ∀ (pins:List (Addr×Obj)) (s:Shared) (σ:St) (H:Hp) (xs:List V) (us:List Value) (Q:VK),Inv X pins σ H s->qc xs us->r xs H Q->
  wpAny ?AD X.A (call f us) ?Bn X.xe s
def tOp (r:R2)(ta tb:TE):TE:=fun σ H Q=>ta σ H fun x H1=>tb σ H1 fun y H2=>r x y H2 Q
def rI (C:Int->Int->Prop)(g:Int->Int->V):R2:=fun x y H Q=>∃ i j,x=.int i/\y=.int j/\C i j/\Q ?BB H
def rI0 (g:Int->Int->V):R2:=fun x y H Q=>∃ i j,x=.int i/\y=.int j/\Q ?BB H
section
variable {ta tb tc:TE}
theorem FC (ha:?Ct)(hb:?E8){R:V->V->Hp->Prop}(I:?A8)
  (h:ta σ H fun x H1=>tb σ H1 fun y H2=>R x y H2) {Q:?M} {f:?vB}
  (hf:∀ v u s2 x y H2,Inv X pins σ H2 s2->YV x v->YV y u->R x y H2->wpAny ?AD X.A (f v u) Q X.xe s2) :
  wpAny ?AD X.A (eval a X.env) (fun v s₁=>wpAny ?AD X.A ?Ey (fun u s₂=>wpAny ?AD X.A (f v u) Q X.xe s₂) X.xe s₁) X.xe s:=by
 refine thn ?DD fun v s1 ⟨x,H1,I1,r1,q1⟩=>?_;refine thn ?Ja fun u s2 ⟨y,H2,I2,r2,q2⟩=>?_;exact hf v u s2 x y H2 I2 r1 r2 q2
theorem uP {op:Operator}{r:R2}(ho:?Jk)(ha:?Ct)(hb:?E8):PE X ?JI ?IK:=by
 intro pins s σ H Q I h;exact wpAny_BinOp (FC ha hb I h fun v u s2 x y H2 I2 rx ry q=>?Mt)
theorem opI {f:?vB}{C:Int->Int->Prop}{g:Int->Int->Int}
  (rule:∀ (i j:Int) (t u:Tok) (s:Shared) (Q:Value->Shared->Prop) (E:Value->Shared->Prop),C i j->Q (.int ?BB s.toks) {s with toks:=?zU}->wpAny ?AD X.A ?JW Q E s) :
  OpR X f (rI C fun i j=>.int ?BB):=by
 intro pins s σ H x y v u Q I rx ry h;obtain⟨i,j,rfl,rfl,hc,q⟩:=h;obtain⟨t,rfl⟩:=rx;obtain⟨t',rfl⟩:=ry;exact rule i j t t' s _ _ hc ?NR
theorem Ig {f:?vB}{g:Int->Int->Int}
  (rule:∀ (i j:Int) (t u:Tok) (s:Shared) (Q:Value->Shared->Prop) (E:Value->Shared->Prop),Q (.int ?BB s.toks) {s with toks:=?zU}->wpAny ?AD X.A ?JW Q E s) :
  OpR X f (rI0 fun i j=>.int ?BB):=by
 intro pins s σ H x y v u Q I rx ry h;obtain⟨i,j,rfl,rfl,q⟩:=h;obtain⟨t,rfl⟩:=rx;obtain⟨t',rfl⟩:=ry;exact rule i j t t' s _ _ ?NR
theorem FV {f:?vB}{g:Int->Int->Bool}
  (rule:∀ (i j:Int) (t u:Tok) (s:Shared) (Q:Value->Shared->Prop) (E:Value->Shared->Prop),Q (.bool ?BB) s->wpAny ?AD X.A ?JW Q E s) :
  OpR X f (rI0 fun i j=>.bl ?BB):=by
 intro pins s σ H x y v u Q I rx ry h;obtain⟨i,j,rfl,rfl,q⟩:=h;obtain⟨t,rfl⟩:=rx;obtain⟨t',rfl⟩:=ry;exact rule i j t t' s _ _ ⟨.bl ?BB,H,I,rfl,q⟩
def IN (i j:Int):Prop:=0<j/\j<1073741824
theorem gN:OpR X ?Hz (rI0 fun i j=>.int (i+j)):=Ig fun _ _ _ _ _ _ _ q=>add_int q
theorem E2:OpR X (binaryOp .Sub) (rI0 fun i j=>.int (i - j)):=Ig fun _ _ _ _ _ _ _ q=>sub_int q
theorem De:OpR X ?P7 (rI IN fun i j=>.int (i / j)):=opI fun i j _ _ _ _ _ hc q=>by
 have h1:(0:Int)<j:=hc.1;have h2:j<1073741824:=hc.2;exact floordiv_int ?A (by rw[Yq i (by lia)];exact q) (.inl (PyProof.noPylong_small ?A))
theorem cn:OpR X (binaryOp .Mod) (rI (fun _ j=>0<j) fun i j=>.int (i % j)):=opI fun i j _ _ _ _ _ hc q=>by
 have h1:(0:Int)<j:=hc;exact mod_int' ?A (by rw[jv i (by lia)];exact q)
end
def B8:V->V->Bool
 |.non,.non=>true|.non,.int _=>true|.int _,.non=>true|.non,.bl _=>true|.bl _,.non=>true|.non,.str _=>true|.str _,.non=>true
 |.int _,.int _=>true|.bl _,.bl _=>true|.str _,.str _=>true|.byt _,.byt _=>true
 |.int _,.str _=>true|.str _,.int _=>true|.bl _,.str _=>true|.str _,.bl _=>true
 |_,_=>false
def rEq:R2:=fun x y H Q=>B8 x y=true/\Q (.bl (decide (x=y))) H
def rNe:R2:=fun x y H Q=>B8 x y=true/\Q (.bl (!decide (x=y))) H
theorem nD {i j:Int}:decide (V.int i=V.int j)=(i==j):=by
 rw[YG];simp
theorem si:decide (V.bl i=V.bl j)=(i==j):=by
 rw[YG];simp
theorem mM:decide (V.str i=V.str j)=(i==j):=by
 rw[YG];simp
theorem na:decide (V.byt i=V.byt j)=(i.toList==j.toList):=by
 rw[YG];cases i;cases j;simp
section
variable {ta tb tc:TE}
theorem Qe(I:?A8)(q:Q (.bl k) H)(e:k=k'):EP X pins σ Q (.bool k') s:=by
 subst e;exact⟨.bl k,H,I,rfl,q⟩
theorem sP:OpR X (compareOp .Eq) rEq:=by
 intro pins s σ H x y v u Q I rx ry h;obtain⟨hs,q⟩:=h;cases x with
 |non=>
  cases rx;cases y with
  |non=>cases ry;exact PySem.EqNone.eq_none_none ?R
  |bl j=>cases ry;exact PySem.EqNone.eq_none_bool ?R
  |int j=>obtain⟨t',rfl⟩:=ry;exact PySem.EqNone.eq_none_int ?R
  |str j=>obtain⟨t',rfl⟩:=ry;exact PySem.EqNone.eq_none_str ?R
  |_=>exact ?Bm
 |bl i=>
  cases rx;cases y with
  |non=>cases ry;exact PySem.EqNone.eq_bool_none ?R
  |bl j=>cases ry;exact eq_bool (Qe I q si)
  |str j=>obtain⟨t',rfl⟩:=ry;exact PySem.EqMixed.eq_bool_str ?R
  |_=>exact ?Bm
 |int i=>
  obtain⟨t,rfl⟩:=rx;cases y with
  |non=>cases ry;exact PySem.EqNone.eq_int_none ?R
  |int j=>obtain⟨t',rfl⟩:=ry;exact eq_int (Qe I q nD)
  |str j=>obtain⟨t',rfl⟩:=ry;exact PySem.EqMixed.eq_int_str ?R
  |_=>exact ?Bm
 |str i=>
  obtain⟨t,rfl⟩:=rx;cases y with
  |non=>cases ry;exact PySem.EqNone.eq_str_none ?R
  |bl j=>cases ry;exact PySem.EqMixed.eq_str_bool ?R
  |int j=>obtain⟨t',rfl⟩:=ry;exact PySem.EqMixed.eq_str_int ?R
  |str j=>obtain⟨t',rfl⟩:=ry;exact eq_str (Qe I q mM)
  |_=>exact ?Bm
 |byt i=>
  obtain⟨t,rfl⟩:=rx;cases y with
  |byt j=>obtain⟨t',rfl⟩:=ry;exact W.eq_bytes (Qe I q na)
  |_=>exact ?Bm
 |_=>cases y <;> exact ?Bm
theorem Hf:OpR X (compareOp .NotEq) rNe:=by
 intro pins s σ H x y v u Q I rx ry h;obtain⟨hs,q⟩:=h;cases x with
 |non=>
  cases rx;cases y with
  |non=>cases ry;exact PySem.EqNone.ne_none_none ?R
  |bl j=>cases ry;exact PySem.EqNone.ne_none_bool ?R
  |int j=>obtain⟨t',rfl⟩:=ry;exact PySem.EqNone.ne_none_int ?R
  |str j=>obtain⟨t',rfl⟩:=ry;exact PySem.EqNone.ne_none_str ?R
  |_=>exact ?Bm
 |bl i=>
  cases rx;cases y with
  |non=>cases ry;exact PySem.EqNone.ne_bool_none ?R
  |bl j=>cases ry;exact ne_bool (Qe I q (congrArg not si))
  |str j=>obtain⟨t',rfl⟩:=ry;exact PySem.EqMixed.ne_bool_str ?R
  |_=>exact ?Bm
 |int i=>
  obtain⟨t,rfl⟩:=rx;cases y with
  |non=>cases ry;exact PySem.EqNone.ne_int_none ?R
  |int j=>obtain⟨t',rfl⟩:=ry;exact ne_int (Qe I q (congrArg not nD))
  |str j=>obtain⟨t',rfl⟩:=ry;exact PySem.EqMixed.ne_int_str ?R
  |_=>exact ?Bm
 |str i=>
  obtain⟨t,rfl⟩:=rx;cases y with
  |non=>cases ry;exact PySem.EqNone.ne_str_none ?R
  |bl j=>cases ry;exact PySem.EqMixed.ne_str_bool ?R
  |int j=>obtain⟨t',rfl⟩:=ry;exact PySem.EqMixed.ne_str_int ?R
  |str j=>obtain⟨t',rfl⟩:=ry;exact ne_str (Qe I q (congrArg not mM))
  |_=>exact ?Bm
 |byt i=>
  obtain⟨t,rfl⟩:=rx;cases y with
  |byt j=>obtain⟨t',rfl⟩:=ry;exact W.ne_bytes (Qe I q (congrArg not na))
  |_=>exact ?Bm
 |_=>cases y <;> exact ?Bm
theorem GP:OpR X (compareOp .Lt) (rI0 fun i j=>.bl (decide (i<j))):=FV fun _ _ _ _ _ _ _ q=>lt_int q
theorem Et:OpR X (compareOp .LtE) (rI0 fun i j=>.bl (decide (i<=j))):=FV fun _ _ _ _ _ _ _ q=>le_int q
theorem Eg:OpR X (compareOp .Gt) (rI0 fun i j=>.bl (decide (j<i))):=FV fun _ _ _ _ _ _ _ q=>gt_int q
theorem UD (b:Expr)(h:op≠.In:=by decide)(h2:op≠.NotIn:=by decide):?qJ:=by
 have e1:(op==CmpOp.In)=false:=by cases op <;> first|rfl|exact absurd rfl h
 have e2:(op==CmpOp.NotIn)=false:=by cases op <;> first|rfl|exact absurd rfl h2
 cases b <;> simp[behindInMarks,e1,e2]
theorem nB {op:CmpOp}{r:R2}(ho:?EY)(ha:?Ct)(hb:?E8)(hm:?qJ):PE X ?jR ?IK:=by
 intro pins s σ H Q I h;exact wpAny_Compare1 (FC ha hb I h fun v u s2 x y H2 I2 rx ry q=>?Mt) hm
def Ie (t:TE):TT:=fun σ H Q=>t σ H fun x H'=>∃ k,x=.bl k/\Q k H'
theorem Wg(ho:?EY)(ha:?Ct)(hb:?E8)(hm:?qJ):PT X ?jR (Ie ?IK):=by
 intro pins s σ H Q I h;refine wpAny_isTrue_Compare1 (thn ?DD fun v s1 ⟨x,H1,I1,r1,q1⟩=>thn ?Ja fun u s2 ⟨y,H2,I2,r2,q2⟩=>
  thn ?Mo fun c s3 ⟨z,H3,I3,r3,k,e,q3⟩=>?_) hm
 subst e;cases r3;exact qL ⟨H3,I3,q3⟩
def Fm (r r':R2)(ta tb tc:TE):TE:=fun σ H Q=>ta σ H fun x H1=>tb σ H1 fun y H2=>r x y H2 fun z H3=>∃ k,z=.bl k/\
 (if k=true then tc σ H3 fun w' H4=>r' y w' H4 Q else Q ?FL H3)
theorem eS(ho:?EY)(ho':OpR X (compareOp op') r')(ha:?Ct)(hb:?E8)(hc:PE X c tc)
  (hm:lastMarks [op,op'] [b,c]=false:=by with_unfolding_all rfl):PE X (.Compare a [op,op'] [b,c] pos) (Fm r r' ta tb tc):=by
 intro pins s σ H Q I h;refine Compare_chain (thn ?DD fun v s1 ⟨x,H1,I1,r1,q1⟩=>chain_link (thn ?Ja fun u s2 ⟨y,H2,I2,r2,q2⟩=>
  thn ?Mo fun d s3 ⟨z,H3,I3,r3,k,e,q3⟩=>?_)) hm
 subst e;cases r3;refine qL ?_;cases k with
 |false=>exact ite_ff ⟨?FL,H3,I3,rfl,q3⟩
 |true=>exact ite_tt (chain_last (thn (hc pins s3 σ H3 _ I3 q3) fun w' s4 ⟨z',H4,I4,r4,q4⟩=>ho' pins s4 σ H4 y z' u w' Q I4 r2 r4 q4))
theorem Ue:(sizeLine:Nat)<2 ^ 63:=by rw[sizeLine_eq];decide
theorem gr:OpR X ?Hz (fun x y H Q=>∃ i j,x=.str i/\y=.str j/\i.length+j.length<=sizeLine/\Q (.str (i++j)) H):=by
 intro pins s σ H x y v u Q I rx ry h;obtain⟨i,j,rfl,rfl,hz,q⟩:=h;obtain⟨t,rfl⟩:=rx;obtain⟨t',rfl⟩:=ry;exact add_str (fun t' tk=>⟨.str (i++j),H,?Ax,?DM,q⟩) hz
theorem wc(r:qc [x] us):∃ u,us=[u]/\YV x u:=by
 cases r with
 |cons r1 r2=>cases r2;exact⟨_,rfl,r1⟩
theorem HE(r:qc [x,y] us):∃ u w',us=[u,w']/\YV x u/\YV y w':=by
 cases r with
 |cons r1 r2=>
  cases r2 with
  |cons r3 r4=>cases r4;exact⟨_,_,rfl,r1,r3⟩
end
structure ObjM (h:Heap)(x dx C:Addr)(mA:?G):Prop where
 obj:h.get? x=some ?Ko
 ns:h.Ns1 dx mA
 ne:dx≠x
theorem n8 {h:Heap}{dx:Addr}{mA:?G}(n:h.Ns1 dx mA):∃ od,h.get? dx=some od/\∀ name,W.lookIn name od=some (mA name):=by
 obtain⟨o,es,ep,ho,hd,hk,_,hm⟩:=n;refine⟨o,ho,fun name=>?_⟩;have e:=hm name;unfold nsFind findBy at e;rw[←Array.find?_toList] at e;unfold W.lookIn;rw[hd];dsimp only;split
 .rename_i y q;rw[q] at e;exact congrArg some e
 .rename_i q;rw[q] at e;have a:es.toList.any (·.refKey)=false:=by
   rw[List.any_eq_false];intro y hy;obtain⟨z,t,hkey⟩:=hk y (Array.mem_toList_iff.mp hy);simp[DictEntry.refKey,hkey]
  have a':¬ es.toList.any (·.refKey)=true:=by rw[a];exact yV
  rw[ye a'];exact congrArg some e
theorem ObjM.look(I:ObjM h x dx C mA):∃ od,W.InstAt h x ?Ko C (some od)/\∀ name,W.lookIn name od=some (mA name):=
 let ⟨od,ho,hl⟩:=n8 I.ns
 ⟨od,⟨I.obj,rfl,rfl,ho⟩,hl⟩
section
variable {prog:?A6}{w:?A5}{A:?Ad}{E:?M}{s:?AI}{K:?A1}{x dx C f:Addr}{mA:?G}{name:Str}{v:?AK}
theorem DH(X:?IS)(I:?Jh)(hg:W.plainGet K C name=true)(hh:?vD)
  (ha:W.findIn K ?AF name=some none) (hv:mA name=some v) (hv':W.handedIn v=true) (h:Q v {s with toks:=?zU}) :
  wpAny ?AG A (getAttr ?Bg name expr) Q E s:=by
 obtain⟨od,J,hl⟩:=I.look;exact W.get_value X J (?KL).1 (W.findObj_own hh ha rfl (by rw[hl,hv])) hv' h
theorem rb(X:?IS)(I:?Jh)(hg:W.plainGet K C name=true)
  (hf:W.findIn K ?AF name=some ?DG) (ht:W.isFn K ?Al=true) (hv:mA name=none) (h:Q (?Al,[.ref x]) s) :
  wpAny ?AG A (getMethod ?Bg name pl) Q E s:=by
 obtain⟨od,J,hl⟩:=I.look;exact W.method_fn X J (?KL).1 (?KL).2 hf (beq_iff_eq.mp ht) (by show(W.lookIn name od).map (·.isSome)=some false;rw[hl,hv];rfl) h
theorem C8(X:?IS)(I:?Jh)
  (hs:?vS) (hp:?xG) (ht:W.takerIn K C name=some none) (hh:?vD)
  (hw:PySem.Within mA ns) (hsz:ns.length<=sizeLine)
  (h:∀ h',ObjM h' x dx C (fun y=>if y=name then some v else mA y)->Heap.SameBut dx s.heap h'->Q () {s with heap:=h',toks:=s.toks+2}) :
  wpAny ?AG A (setAttr ?Bg name v) Q E s:=by
 obtain⟨od,J,hl⟩:=I.look;refine W.set_plain X J hs (W.osa_open (s:={s with toks:=?zU}) (r:=none) X J hp ht fun b=>?_);obtain⟨cd,hc,hd'⟩:=W.any_some hh;have hx:s.heap.get? x=some ⟨.ref C,some dx,.plain,#[]⟩:=I.obj;refine ya (yj (ya (ya (wpAny_loadPart hx (ya (W.Looks.here (s:={s with toks:=?zU}) (W.looks_clsIn X hc) ?_))))));rw[hd'];refine yj (a:=some dx) (ya (yj (ya ?_)));refine wpAny_nsSet1 (s:={s with toks:=?zU}) I.ns fun h' hn2 hs2=>?_;obtain⟨oD,esD,epD,hoD,hdD,hcD⟩:=hn2.count (PySem.Within.cons name v hw);refine ya (wpAny_lookBehind hoD (by rw[hdD];exact pastItsLine_dict (yU hcD (by rw[yw];lia))) ?_);exact yj (h _ ⟨(hs2.2 _ (Ne.symm I.ne)).trans I.obj,hn2,I.ne⟩ hs2)
theorem At(X:?IS)(hm:W.makesIn K C=true)
  (hi:W.findIn K ?AF "__init__" = some ?DG) (hf:W.typeIn K ?Al=some (.type "function"))
  (h:codeAny ?AG (A.under (.builtin "type.__call__" ⟨.ref C::vs,kw⟩)) (.call ?Al ⟨.ref ?zD::vs,kw⟩) (W.InitBack ?zD R)
   {s with heap:=(?HA).push ?JJ}) :
  codeAny ?AG A (.call ?AF ⟨vs,kw⟩) R s:=by
 obtain⟨hh,g,d,t,os⟩:=s;exact W.make_core (W.makes_of X hm) (W.looks_findIn X hi) (fun self=>W.bind_fn X self hf) ?A3 h
end
def V9 (f:Str)(v:V):List (Str×V)->List (Str×V)
 |[]=>[(f,v)]
 | (g,x)::r=>if g=f then (g,v)::r else (g,x)::V9 f v r
theorem wj (f g:Str)(v:V):∀ fs:List (Str×V),(?Ii).lookup g=if g=f then some v else fs.lookup g
 |[]=>by
  show List.lookup g [(f,v)]=_;by_cases h:g=f
  .have hb:(g==f)=true:=beq_iff_eq.mpr h;simp only[List.lookup,hb,yf h]
  .have hb:(g==f)=false:=beq_eq_false_iff_ne.mpr h;simp only[List.lookup,hb,ye h]
 | (k,x)::r=>by
  have ih:=wj f g v r;rw[show V9 f v ((k,x)::r)=?uV from rfl];by_cases hk:k=f
  .rw[yf hk];by_cases h:g=k
   .have hb:(g==k)=true:=beq_iff_eq.mpr h;simp only[List.lookup,hb,yf (h.trans hk)]
   .have hb:(g==k)=false:=beq_eq_false_iff_ne.mpr h;simp only[List.lookup,hb,ye (fun e:g=f=>h (e.trans hk.symm))]
  .rw[ye hk];by_cases h:g=k
   .have hb:(g==k)=true:=beq_iff_eq.mpr h;simp only[List.lookup,hb,ye (fun e:g=f=>hk (h.symm.trans e))]
   .have hb:(g==k)=false:=beq_eq_false_iff_ne.mpr h;simp only[List.lookup,hb];exact ih
theorem Ur (f:Str)(v:V):∀ fs:List (Str×V),f∈(?Ii).map ?C/\∀ g,g∈fs.map ?C->g∈(?Ii).map ?C
 |[]=>⟨by simp[V9],fun g h=>by simp at h⟩
 | (k,x)::r=>by
  obtain⟨i1,i2⟩:=Ur f v r;rw[show V9 f v ((k,x)::r)=?uV from rfl];by_cases hk:k=f
  .rw[yf hk];subst hk;exact⟨by simp,fun g h=>by simpa using h⟩
  .rw[ye hk];refine⟨?_,fun g h=>?_⟩
   .rw[yt];exact yb _ i1
   .rw[yt] at h ⊢;rcases yG.mp h with e|e
    .exact yG.mpr (.inl e)
    .exact yb _ (i2 g e)
theorem U6 (f:Str)(v:V):∀ fs:List (Str×V),(?Ii).length<=fs.length+1
 |[]=>by simp[V9]
 | (k,x)::r=>by
  have ih:=U6 f v r;rw[show V9 f v ((k,x)::r)=?uV from rfl];by_cases hk:k=f
  .rw[yf hk,yw,yw];lia
  .rw[ye hk,yw,yw];lia
theorem V8.some_of(r:V8 ?CY o):∃ u,o=some u/\YV v u:=by
 cases o with
 |none=>exact(show False from r).elim
 |some u=>exact⟨u,rfl,r⟩
theorem V8.none_of(r:V8 none o):o=none:=by
 cases o with
 |none=>rfl
 |some u=>exact(show False from r).elim
theorem nR(r:?EO):W.handedIn u=true:=by
 cases v with
 |non=>cases (show u=Value.none from r);rfl
 |bl b=>cases (show u=Value.bool b from r);rfl
 |int i=>obtain⟨t,e⟩:=(show ∃ t,u=Value.int i t from r);cases e;rfl
 |str x=>obtain⟨t,e⟩:=(show ∃ t,u=Value.str x t from r);cases e;rfl
 |byt b=>obtain⟨t,e⟩:=(show ∃ t,u=Value.bytes b t from r);cases e;rfl
 |flt b=>obtain⟨t,e⟩:=(show ∃ t,u=Value.float b t from r);cases e;rfl
 |ref a=>cases (show u=Value.ref a from r);rfl
 |ty n=>cases (show u=Value.type n from r);rfl
section
theorem Wc (hok:?B4)(e:H a=some ?Cs):∃ mA,ObjM h a dx C mA/\(∀ f,?O3)/\PySem.Within mA (fs.map ?C)/\fs.length<=1000/\H dx=some (.own a):=by
 obtain⟨d,z,ne,ob,mA,n,r,q⟩:=(show qQ P w H h a ?Cs from hok a _ e)
 exact⟨mA,⟨ob,n,ne⟩,r,q,z,d⟩
end
structure Cls (K:?A1)(C:Addr):Prop where
 pg:W.plainGet K C Str.empty=true
 hd:W.hasDictIn K C=true
 po:W.plainOver K C=true
 sa:W.findIn K ?AF "__setattr__" = some (some (.builtin "object.__setattr__"))
theorem Cls.get {K:?A1}{C:Addr}(c:Cls K C)(f:Str):W.plainGet K C f=true:=c.pg
def QM (K:?A1)(C:Addr)(f:Str):Prop:=W.findIn K ?AF f=some none
theorem QM.taker {K:?A1}{C:Addr}{f:Str}(n:QM K C f):W.takerIn K C f=some none:=by
 unfold W.takerIn;rw[show W.findIn K (.ref C) f=some none from n];rfl
structure Meth (K:?A1)(C:Addr)(m:Str)(f:Addr):Prop where
 at_:W.findIn K ?AF m=some ?DG
 fn:W.isFn K ?Al=true
 kp:W.keepIn K ?Al=true
section
theorem iN(I:?A8)(e:H a=some ?Cs)(c:?CP)(n:?GN)(l:fs.lookup f=some v)
  (h:∀ u s',Inv X pins σ H s'->YV v u->Q u s'):wpAny ?AD A (getAttr ?AB f b) Q E s:=by
 obtain⟨mA,O,r,_,_,_⟩:=Wc I.hok e;obtain⟨u,hu,ru⟩:=V8.some_of (v:=v) (o:=mA f) (by rw[←l];exact r f);exact DH I.kIn O (c.get f) c.hd n hu (nR ru) (h u _ ?Ax ru)
theorem Ww(I:?A8)(e:H a=some ?Cs)(c:?CP)(k:Meth X.K C m g)(l:fs.lookup m=none)
  (h:Q (.ref g,?yK) s):wpAny ?AD A (getMethod ?AB m pl) Q E s:=by
 obtain⟨mA,O,r,_,_,_⟩:=Wc I.hok e;have hn:mA m=none:=V8.none_of (by rw[←l];exact r m);exact rb I.kIn O (c.get m) k.at_ k.fn hn h
theorem lm(I:?A8)(e:H a=some ?Cs)(c:?CP)(n:?GN)(hl:fs.length<1000)(ry:?Cb)
  (h:∀ s',Inv X pins σ (upd H a (.ins C dx (V9 f y fs))) s'->Q () s'):wpAny ?AD A (setAttr ?AB f u) Q E s:=by
 obtain⟨mA,O,r,wi,_,ho⟩:=Wc I.hok e;have hz:(fs.map ?C).length<=sizeLine:=by rw[yd,sizeLine_eq];lia
 refine C8 I.kIn O c.sa c.po n.taker c.hd wi hz fun h' O' sb=>h _ ?_;have hd:∃ o,h'.get? dx=some o:=let ⟨o,_,_,e',_⟩:=O'.ns;⟨o,e'⟩
 refine I.write (x:=a) (e:=dx) (by rw[e];exact ?DT) (.inr ho) (fun b q hb z=>(sb.2 b hb).trans z) hd ?_;refine⟨by rw[yR O.ne];exact ho,?_,O.ne,O'.obj,_,O'.ns,fun g=>?_,fun g hg=>?_⟩
 .have:=U6 f y fs;lia
 .show V8 ((V9 f y fs).lookup g) (if g=f then some u else mA g);rw[wj];by_cases q:g=f
  .rw[yf q,yf q];exact ry
  .rw[ye q,ye q];exact r g
 .by_cases q:g=f
  .rw[q];exact(Ur f y fs).1
  .refine(Ur f y fs).2 g (wi g fun z=>hg ?_);show(if g=f then some u else mA g)=none;rw[ye q];exact z
theorem Inv.made (I:?A8):Inv X pins σ (upd (upd H s.heap.objs.size (.own ?zD)) ?zD (.ins C s.heap.objs.size []))
  {s with heap:=(?HA).push ?JJ}:=by
 have e1:(s.heap.push W.emptyDict).get? s.heap.objs.size=some W.emptyDict:=yO s.heap rfl;have e2:((s.heap.push W.emptyDict).push (W.instObj C s.heap.objs.size)).get? (s.heap.objs.size+1)=some (W.instObj C s.heap.objs.size):=by
  have:=yO ?HA (o:=?JJ) rfl
  rwa [Heap.size_push] at this
 have e3:(s.heap.push W.emptyDict).Ns s.heap.objs.size (fun _=>none):=⟨W.emptyDict,#[],_,e1,rfl,(fun e he=>absurd he (by simp)),fun _=>rfl⟩
 have I1:=I.laid (a:=?DK) (o:=.own ?zD) (h':=?HA) (t':=?Ac) (fun b u q=>?CV) ?AH ⟨_,e1⟩;refine I1.laid (a:=?zD) (o:=.ins C s.heap.objs.size []) (t':=?Ac) (fun b u q=>?CV) (Nat.le_of_eq (Heap.size_push _ _)) ?_;have ne:s.heap.objs.size≠s.heap.objs.size+1:=Ym ?Kf;refine⟨by rw[yR ne,yX],YC _,ne,e2,fun _=>none,(Heap.Ns1.of_empty e3).at fun o q=>?CV,fun _=>?DT,fun y hy=>absurd rfl hy⟩
theorem Dt {f:Str}{s:?AI}(hb:attributeBase e f env (eval e env)=eval e env)
  (h:wpAny ?AG A (eval e env) (fun o s₁=>wpAny ?AG A (getAttr o f true) Q E s₁) E s):wpAny ?AG A (eval ?HW env) Q E s:=
 Attribute_any_ h (by rw[arm_eval_Attribute,hb])
end
def IM (K:?A1)(ta:TE)(f:Str):TE:=fun σ H Q=>ta σ H fun x H1=>∃ a C dx fs v,x=.ref a/\H1 a=some ?Cs/\Cls K C/\QM K C f/\fs.lookup f=some v/\Q v H1
def IL (K:?A1)(ta tv:TE)(f:Str):TS:=fun D σ H=>tv σ H fun y H1=>ta σ H1 fun x H2=>∃ a C dx fs,x=.ref a/\H2 a=some ?Cs/\Cls K C/\QM K C f/\fs.length<1000/\
 D.nx σ (upd H2 a (.ins C dx (V9 f y fs)))
section
theorem gi (he:PE X e ta)(hb:?uW):PE X ?HW (IM X.K ta f):=by
 intro pins s σ H Q I h;refine Dt hb (thn ?DF fun u s1 ⟨x,H1,I1,rx,a,C,dx,fs,v,ex,ea,c,n,l,q⟩=>?_);subst ex;obtain rfl:u=Value.ref a:=rx;exact iN I1 ea c n l fun u' s2 I2 ru=>⟨v,H1,I2,ru,q⟩
theorem Ge (ha:PE X o ta)(hv:PE X value tv)(hs:swapsWith value ?NT pos.line X.env=pure false):PS X (.Assign [.Attribute o f pos'] value pos) (IL X.K ta tv f):=by
 intro pins s σ H D I h;refine plainObj_wpAny_Assign_Attribute (thn ?OQ fun u s1 ⟨y,H1,I1,ry,q⟩=>thn (ha pins s1 σ H1 _ I1 q) fun ov s2 ⟨x,H2,I2,rx,a,C,dx,fs,ex,ea,c,n,l,q2⟩=>?_) hs;subst ex;obtain rfl:ov=Value.ref a:=rx;exact lm I2 ea c n l ry fun s3 I3=>⟨σ,_,I3,q2⟩
end
section
inductive TyOf (K:?A1)(H:Hp):V->Value->Prop where
 |non:TyOf K H .non (.type "NoneType")
 |bl (x:Bool):TyOf K H (.bl x) (.type "bool")
 |int (i:Int):TyOf K H ?Ca (.type "int")
 |str (x:Str):TyOf K H ?Ce (.type "str")
 |flt (x:UInt64):TyOf K H (.flt x) (.type "float")
 |lst {a:Addr} {xs:?AL} (e:H a=some ?Aa):TyOf K H ?AB ?S
 |frz {a:Addr} {o:Obj} {xs:?AL} (e:H a=some (.frz o ?Aa)):TyOf K H ?AB ?S
 |tup {a:Addr} {xs:?AL} (e:H a=some ?BN):TyOf K H ?AB ?zX
 |dK {a:Addr} {kvs:?vO} (e:H a=some ?Bu):TyOf K H ?AB ?qX
 |dT {a:Addr} {kvs:?xP} (e:H a=some ?CS):TyOf K H ?AB ?qX
 |ins {a C dx:Addr} {fs:List (Str×V)} (e:H a=some ?Cs) (cl:Cls K C) (ha:W.findIn K ?AF "__class__" = some (some ?zN))
   (hn:W.specialIn K ?zN "__get__" = some (some ?wS)) (htk:W.takesIn K ?zN=some true)
   (hm:W.mroIn K C (.type "object")=some true):TyOf K H ?AB ?AF
theorem oZ(I:?A8)(rx:YV x u)(ty:TyOf X.K H x t)(e:W.kitOne X.K t c=some b)(h:∀ tk,Q (.bool b) {s with toks:=tk}) :
  wpAny ?AD A (call (.builtin "isinstance") [u,c]) Q E s:=by
 cases ty with
 |non=>cases (show u=Value.none from rx);exact W.kia_one W.kitx_none I.kIn True.intro e ?zH h
 |bl y=>cases (show u=Value.bool y from rx);exact W.kia_one W.kitx_bool I.kIn True.intro e ?zH h
 |int i=>obtain⟨t,q⟩:=(show ∃ t,u=Value.int i t from rx);cases q;exact W.kia_one W.kitx_int I.kIn True.intro e ?zH h
 |str y=>obtain⟨t,q⟩:=(show ∃ t,u=Value.str y t from rx);cases q;exact W.kia_one W.kitx_str I.kIn True.intro e ?zH h
 |flt y=>obtain⟨t,q⟩:=(show ∃ t,u=Value.float y t from rx);cases q;exact W.kia_one W.kitx_float I.kIn True.intro e ?zH h
 |@lst a xs ea=>
  cases ?jM;obtain⟨_,_,n,_,h1⟩:=(show qQ X.prog X.w H s.heap a ?Aa from I.hok a _ ea)
  exact ?MW
 |@frz a ob xs ea=>
  cases ?jM;obtain⟨_,_,_,n,_,h1⟩:=(show qQ X.prog X.w H s.heap a (.frz ob ?Aa) from I.hok a _ ea)
  exact ?MW
 |@tup a xs ea=>
  cases ?jM;obtain⟨_,_,_,p⟩:=(show qQ X.prog X.w H s.heap a ?BN from I.hok a _ ea)
  obtain⟨o,h1,h2,_⟩:=p;exact W.kia_one W.kitx_tuple I.kIn ⟨o,h1,h2⟩ e ?zH h
 |@dK a kvs ea=>
  cases ?jM;obtain⟨_,_,vs,_,p⟩:=(show qQ X.prog X.w H s.heap a ?Bu from I.hok a _ ea)
  obtain⟨o,es,ep,h1,h2,_⟩:=p;exact W.kia_one W.kitx_dict I.kIn ⟨o,h1,h2.1⟩ e ?zH h
 |@dT a kvs ea=>
  cases ?jM;obtain⟨_,_,xs,_,o,es,ep,h1,h2,_⟩:=(show qQ X.prog X.w H s.heap a ?CS from I.hok a _ ea)
  exact W.kia_one W.kitx_dict I.kIn ⟨o,h1,h2.1⟩ e ?zH h
 |@ins a C dx fs ea cl ha hn htk hm=>
  cases ?jM;obtain⟨mA,O,_⟩:=Wc I.hok ea;obtain⟨od,J,_⟩:=O.look;exact W.kia_one (W.kitx_own (cl.get _) cl.hd ha hn htk hm) I.kIn J e ?zH h
end
structure Room (k:Nat)(A:?Ad):Prop where
 hd:A.handled=none
 dp:A.depth+3*k+5<recursionLimit
 un:A.units+16*k+200<cLine
theorem Room.mono(r:Room k A)(h:j<=k):Room j A:=⟨r.hd,by have:=r.dp;lia,by have:=r.un;lia⟩
theorem Room.deeper(r:Room (k+1) A)(env:Env):Room k (A.deeper env):=
 ⟨r.hd,by have:=r.dp;show A.depth+1+3*k+5<_;lia,by have:=r.un;show A.units+3+16*k+200<_;lia⟩
theorem iA {A:?Ad}{us:?AX}{kw:?vA}:(?kA).depth=A.depth+1:=by
 first|rfl|simp[Around.under,Code.weight,Code.isCreation,Code.isGuard,Code.isCaller,Code.frames,Code.isFrame,guardIds]
theorem ii {A:?Ad}{us:?AX}{kw:?vA}:(?kA).units=A.units+1:=by
 first|rfl|simp[Around.under,Code.cUnits,Code.frames,Code.isFrame]
theorem Room.make(r:Room (k+1) A)(C:Addr)(us:?AX)(kw:?vA):Room k ?kA:=
 ⟨r.hd,by have:=r.dp;rw[iA];lia,by have:=r.un;rw[ii];lia⟩
theorem Room.depth(r:Room k A):A.depth<recursionLimit:=by have:=r.dp;lia
theorem Room.units(r:Room k A):A.units+64<cLine:=by have:=r.un;lia
def Hz:TA:=fun _ H Q=>Q [] H
def Hi (ta:TE)(tr:TA):TA:=fun σ H Q=>ta σ H fun x H1=>tr σ H1 fun xs H2=>Q (x::xs) H2
section
theorem Vs:PA X [] Hz:=fun _ _ _ _ H Q I h=>Calls.spliced_nil ⟨[],H,I,.nil,h⟩
theorem zY (ha:?EA)(hr:PA X es t)(hs:?T:=by rfl):PA X (e::es) (Hi te t):=by
 intro pos pins s σ H Q I h;rw[hs];show wpAny _ _ (spliced ((?AN,?Cj)::backTo pos ?H4)) _ _ s;refine Calls.spliced_cons (thn ?DD fun u s1 ⟨x,H1,I1,r1,q1⟩=>?_);exact thn (hr pos pins s1 σ H1 _ I1 q1) fun us s2 ⟨xs,H2,I2,r2,q2⟩=>⟨x::xs,H2,I2,.cons r1 r2,q2⟩
def IC (t:TA):TE:=fun σ H Q=>t σ H fun xs H1=>xs.length<=sizeLine/\∀ p,H1 p=none->Q ?Bw (upd H1 p ?BN)
def Le (t:TA):TE:=fun σ H Q=>t σ H fun xs H1=>xs.length<=sizeLine/\∀ p,H1 p=none->Q ?Bw (upd H1 p ?Aa)
theorem bg(h:PA X es t):PE X ?KN (IC t):=by
 intro pins s σ H Q I hq;refine wpAny_Tuple_spliced (thn ?Nu fun us s1 ⟨xs,H1,I1,r,z,q⟩=>⟨by rw[←r.length];exact z,?_⟩);have hf:H1 s1.heap.objs.size=none:=I1.hok.fresh ?AH;refine⟨.ref s1.heap.objs.size,upd H1 s1.heap.objs.size ?BN,I1.laid (t':=?Cy) (fun b u e=>?At) ?AH ?_,rfl,q _ hf⟩;exact⟨z,us,r,⟨_,?CT,rfl,_,rfl⟩⟩
theorem lA (h:PA X es t):PE X ?IH (Le t):=by
 intro pins s σ H Q I hq;refine wpAny_List_spliced (thn ?Nu fun us s1 ⟨xs,H1,I1,r,z,q⟩=>⟨by rw[←r.length];exact z,?_⟩);have hf:H1 s1.heap.objs.size=none:=I1.hok.fresh ?AH;refine⟨.ref s1.heap.objs.size,upd H1 s1.heap.objs.size ?Aa,I1.laid (t':=?Cy) (fun b u e=>?At) ?AH ?_,rfl,q _ hf⟩;exact⟨z,us,0,r,?CT⟩
end
abbrev Sp:=List V->Hp->VK->XK->Prop
abbrev CXT:=List Env->Hp->Shared->XK->Value->Shared->Prop
structure Env0 (P:?A6)(w:?A5)(K:?A1)(mg:?G)(base:Heap)(A:?Ad)(outer:?CU)(s:?AI)(H:Hp):Prop where
 frames:A.frames=some outer
 mod:Mod K mg base
 bs:∀ b o,base.get? b=some o->s.heap.get? b=some o/\H b=none
 bsz:base.objs.size<=s.heap.objs.size
 funs:s.heap.FunFrames base outer
 frf:∀ b∈frs outer,H b=none
 hok:HOk P w H s.heap
 bare:AllBare s.gens
def CE (outer:?CU)(P:?A6)(w:?A5)(H:Hp)(s:?AI)(Q:VK)(u:?AK)(s':?AI):Prop:=
 ∃ v H',s'.os=s.os/\AllBare s'.gens/\Un (frs outer) [] H H' s.heap s'.heap/\HOk P w H' s'.heap/\YV v u/\Q v H'
def CR (CX:CXT)(outer:?CU)(P:?A6)(w:?A5)(H:Hp)(s:?AI)(Q:VK)(E:XK)(r:Result)(s':?AI):Prop:=
 match r with
 |.ok (.ret u)=>CE outer P w H s Q u s'
 |.ok _=>False
 |.error e=>CX outer H s E e s'
structure FnOk (P:?A6)(w:?A5)(K:?A1)(mg:?G)(base:Heap)(CX:CXT)(k:Nat)(f:Addr)(fd:?Cx)(ps:?A0)(sp:Sp):Prop where
 len:∀ vs H Q E,sp vs H Q E->vs.length=ps.length
 run:∀ (A:Around) (outer:List Env) (s:Shared) (H:Hp) (args:Args) (us:List Value) (vs:List V) (Q:VK) (E:XK),Room k A->Env0 P w K mg base A outer s H->BindsTo s fd args ?DW->qc vs us->sp vs H Q E->
  codeAny ?Bc A (.call ?Al args) (CR CX outer P w H s Q E) s
theorem FnOk.imp {P:?A6}{w:?A5}{K:?A1}{mg:?G}{base:Heap}{CX:CXT}{k:Nat}{f:Addr}{fd:?Cx}{ps:?A0}{sp sp':Sp}(F:FnOk P w K mg base CX k f fd ps sp)
  (h:∀ vs H Q E,sp' vs H Q E->sp vs H Q E):FnOk P w K mg base CX k f fd ps sp':=
 ⟨fun vs H Q E q=>F.len vs H Q E (h _ _ _ _ q),fun A outer s H args us vs Q E hr he hb hv hs=>F.run A outer s H args us vs Q E hr he hb hv (h _ _ _ _ hs)⟩
theorem Env0.make {P:?A6}{w:?A5}{K:?A1}{mg:?G}{base:Heap}{A:?Ad}{outer:?CU}{s:?AI}{H:Hp}(e:?NN)(C:Addr)(us:?AX)(kw:?vA) :
  Env0 P w K mg base ?kA outer s H:=⟨by first|exact e.frames|(simpa [Around.under,Code.envs,Code.isFrame,pushEnvs] using e.frames),e.mod,e.bs,e.bsz,e.funs,e.frf,e.hok,e.bare⟩
section
theorem Inv.env0 (I:?A8):Env0 X.prog X.w X.K X.mg X.base X.A X.stack s H:=
 ⟨I.ok.frames,I.ok.mod,I.bs,yU I.ok.bsz I.sz,I.stack,I.stkFree,I.hok,?Cc⟩
theorem Inv.after(I:?A8)(h:CE X.stack X.prog X.w H s Q u s'):EP X pins σ Q u s':=by
 obtain⟨v,H',os,bare,un,hok,r,q⟩:=h;obtain⟨hh,g,d,t,os'⟩:=s';obtain rfl:os'=s.os:=os;exact⟨v,H',I.call (h':=hh) (g':=g) (d':=d) (t':=t) (ch:=[]) un hok bare (fun b z=>absurd z (by simp)),r,q⟩
end
def D7 (sp:Sp)(dvs:?AL)(E:XK)(t:TA):TE:=fun σ H Q=>t σ H fun vs H1=>sp (vs++dvs) H1 Q E
def D9 (C:Addr)(m:Str)(sp:Sp)(dvs:?AL)(E:XK)(ta:TE)(t:TA):TE:=fun σ H Q=>ta σ H fun x H1=>∃ a dx fs,x=.ref a/\H1 a=some ?Cs/\fs.lookup m=none/\
 t σ H1 fun vs H2=>sp (x::(vs++dvs)) H2 Q E
def HP (C:Addr)(sp:Sp)(dvs:?AL)(E:XK)(t:TA):TE:=fun σ H Q=>t σ H fun vs H1=>∀ x dx,H1 x=none->H1 dx=none->dx≠x->
 sp (.ref x::(vs++dvs)) (upd (upd H1 dx (.own x)) x (.ins C dx [])) (fun v H2=>v=.non/\Q ?Bg H2) E
def vc (K:?A1)(fd:?Cx)(ps:?A0)(ds:?AX):Prop:=
 ∀ (s:Shared) (us:List Value),K.In s.heap->(us++ds).length=ps.length->BindsTo s fd ?jB (ps.zip (us++ds))
theorem vc.all {K:?A1}{fd:?Cx}{ps:?A0}(h:∀ us:List Value,us.length=ps.length->bindArgs fd ?jB=pure ?DW):vc K fd ps []:=fun s us _ hl=>by
 rw[yM] at hl ⊢;exact .of_eq (h us hl)
def uf (CX:CXT)(X:Cx)(E:XK):Prop:=∀ (pins:List (Addr×Obj)) (σ:St) (H:Hp) (s:Shared) (e:Value) (s':Shared),Inv X pins σ H s->CX X.stack H s E e s'->X.xe e s'
section
theorem gO(F:?EV)(hr:?Am)(hb:?Ex)(hd:?FF)(hx:?FA)
  (I:?A8) (r:?It) (h:sp (vs++dvs) H Q E):wpAny ?AD X.A (call ?Al us) ?Bn X.xe s:=by
 have r2:qc (vs++dvs) (us++ds):=r.append hd;have hl:(us++ds).length=ps.length:=by rw[←r2.length];exact F.len _ _ _ _ h
 refine wpAny_call (codeAny_mono (F.run X.A X.stack s H ?jB (us++ds) (vs++dvs) Q E hr I.env0 (hb s us I.kIn hl) r2 h) fun r s' hq=>?_);cases r with
 |error e=>exact hx pins σ H s e s' I hq
 |ok fl=>
  cases fl with
  |ret u=>exact I.after hq
  |next=>exact ?LF
  |brk=>exact ?LF
  |cont=>exact ?LF
theorem Dq (F:?EV)(hr:?Am)(hg:?Ai)(hm:X.mg x=some ?Al)(hk:W.keepIn X.K ?Al=true)(hb:?Ex)(hd:?FF)(hx:?FA)
  (ha:?qP) (hdb:?L:=by decide) (he:?T:=by rfl) (hpl:?zA:=by rfl) :
  PE X ?yP (D7 sp dvs E t):=by
 intro pins s σ H Q I h;refine ?Mn;refine W.callWith_K (h₀:=X.base) I.ok.mod.kin hk (thn ?Cf fun us s1 ⟨vs,H1,I1,r,q⟩=>⟨I1.kIn,?_⟩) he hpl;exact gO F hr hb hd hx I1 r q
theorem Wb(he:PE X o ta)(c:?CP)(hm:Meth X.K C m f)(F:?EV)(hr:?Am)(hb:?Ex)(hd:?FF)(hx:?FA)(ha:?qP)
  (hst:?T:=by rfl) (hpl:?zA:=by rfl)
  (ht:eval ?yO X.env=(do
   let ov ←eval o X.env
   standAt apos.atName
   let ?yJ ←holding [ov] (getMethod ov m pl)
   callWith pos f first ?wU ?zZ):=by rfl) :
  PE X ?yO (D9 C m sp dvs E ta t):=by
 intro pins s σ H Q I h;refine W.methodCall_KW (pl:=pl) (thn ?DF fun u s1 ⟨x,H1,I1,rx,a,dx,fs,ex,ea,l,q⟩=>?_) ht;subst ex;obtain rfl:u=Value.ref a:=rx;refine ?P8;refine W.callWith_K (first:=?yK) (h₀:=X.base) I.ok.mod.kin hm.kp (thn (ha pos pins s1 σ H1 _ I1 q) fun us s2 ⟨vs,H2,I2,r,q2⟩=>⟨I2.kIn,?_⟩) hst hpl;exact gO (us:=.ref a::us) (vs:=.ref a::vs) F hr hb hd hx I2 (.cons rfl r) q2
theorem WW(he:PE X o ta)(c:?CP)(hm:Meth X.K C m f)(F:?EV)(hr:?Am)(hb:?Ex)(hd:?FF)(hx:?FA)
  (ht:eval ?yQ X.env=(do
   let ov ←eval o X.env
   standAt apos.atName
   let ?yJ ←holding [ov] (getMethod ov m pl)
   callWith pos f first ?wV ?zZ):=by rfl) :
  PE X ?yQ (D9 C m sp dvs E ta Hz):=by
 intro pins s σ H Q I h;refine W.methodCall_KW (pl:=pl) (thn ?DF fun u s1 ⟨x,H1,I1,rx,a,dx,fs,ex,ea,l,q⟩=>?_) ht;subst ex;obtain rfl:u=Value.ref a:=rx;refine ?P8;exact W.callWith_K0 (first:=?yK) I1.kIn hm.kp (gO (us:=?yK) (vs:=?yK) F hr hb hd hx I1 (.cons rfl .nil) q)
structure Mk (K:?A1)(C f:Addr):Prop where
 makes:W.makesIn K C=true
 init:W.findIn K ?AF "__init__" = some ?DG
 fn:W.isFn K ?Al=true
 kp:W.keepIn K ?AF=true
theorem Ab(M:Mk X.K C f)(F:?EV)(hr:?vL)(hb:?Ex)(hd:?FF)
  (hx:?FA) (I:?A8) (r:?It)
  (h:∀ x dx,H x=none->H dx=none->dx≠x->sp (.ref x::(vs++dvs)) (upd (upd H dx (.own x)) x (.ins C dx [])) (fun v H2=>v=.non/\Q ?Bg H2) E) :
  wpAny ?AD X.A (call ?AF us) ?Bn X.xe s:=by
 have hq:=h ?zD s.heap.objs.size (I.hok.fresh ?G7) ?C9 (Ym ?Kf);have I2:=Inv.made (C:=C) I;have r2:qc (V.ref (s.heap.objs.size+1)::(vs++dvs)) (Value.ref (s.heap.objs.size+1)::(us++ds)):=.cons rfl (r.append hd);have hl:(Value.ref (s.heap.objs.size+1)::us++ds).length=ps.length:=by
  have e:=r2.length;rw[F.len _ _ _ _ hq] at e;exact e.symm
 refine wpAny_call (At (f:=f) I.kIn M.makes M.init (beq_iff_eq.mp M.fn) (codeAny_mono (F.run _ X.stack _ _ ⟨Value.ref ?zD::us,[]⟩ (Value.ref ?zD::(us++ds)) _ _ E (hr.make C us [])
  (I2.env0.make C us []) (hb _ (Value.ref ?zD::us) I2.kIn hl) r2 hq) fun r s' hq'=>?_))
 cases r with
 |error e=>exact hx pins σ _ _ e s' I2 hq'
 |ok fl=>
  cases fl with
  |ret u=>
   obtain⟨v,H',I3,rv,ev,q3⟩:=I2.after hq';subst ev;exact⟨rv,⟨V.ref ?zD,H',I3,rfl,q3⟩⟩
  |next=>exact ?L1
  |brk=>exact ?L1
  |cont=>exact ?L1
theorem cj (M:Mk X.K C f)(F:?EV)(hr:?vL)(hg:?Ai)(hm:X.mg x=some ?AF)(hb:?Ex)(hd:?FF)(hx:?FA)
  (ha:?qP) (hdb:?L:=by decide) (he:?T:=by rfl) (hpl:?zA:=by rfl) :
  PE X ?yP (HP C sp dvs E t):=by
 intro pins s σ H Q I h;refine ?Mn;refine W.callWith_K (h₀:=X.base) I.ok.mod.kin M.kp (thn ?Cf fun us s1 ⟨vs,H1,I1,r,q⟩=>⟨I1.kIn,?_⟩) he hpl;exact Ab M F hr hb hd hx I1 r q
end
section
end
structure FnScope (N P:?A0)(sc:?BR):Prop where
 kind:sc.kind=.function
 co:sc.isCoroutine=false
 gen:sc.isGenerator=false
 nd:N.Nodup
 pre:N.take P.length=P
 par:∀ x∈P,sc.names.lookup x=some .local∨sc.names.lookup x=some .cell
 nofree:∀ y∈sc.names,y.2≠.free
theorem qZ(kind:sc.kind=.function:=by rfl)(co:sc.isCoroutine=false:=by rfl)(gen:sc.isGenerator=false:=by rfl)(nd:N.Nodup:=by decide +kernel)(pre:N.take P.length=P:=by rfl)(par:∀ x∈P,sc.names.lookup x=some .local∨sc.names.lookup x=some .cell:=by decide +kernel)(nofree:∀ y∈sc.names,y.2≠.free:=by decide +kernel):FnScope N P sc:=⟨kind,co,gen,nd,pre,par,nofree⟩
theorem ae {kindOf:?xH}:∀ {binds:List (Str×Value)} {m:Str->Option Value},(∀ v,(x,v)∉binds)->bindL kindOf binds m x=m x
 |[],_,_=>rfl
 | (n,v)::r,m,h=>by
  unfold bindL;rw[ae fun w hw=>h w (yb _ hw)];split
  .have:x≠n:=by rintro rfl;exact h v yh
   simp[this]
  .rfl
theorem X0 {kindOf:?xH}:∀ {binds:List (Str×Value)} {m:Str->Option Value},(∀ v,(x,v)∉binds)->bindC kindOf binds m x=m x
 |[],_,_=>rfl
 | (n,v)::r,m,h=>by
  unfold bindC;rw[X0 fun w hw=>h w (yb _ hw)];split
  .rfl
  .have:x≠n:=by rintro rfl;exact h v yh
   simp[this]
theorem aI {kindOf:?xH}:∀ {P:List Str} {vs:List Value} {i:Nat} {m:Str->Option Value},P.Nodup->P[i]?=some x->vs[i]?=some v->kindOf x=some .local->
  bindL kindOf (P.zip vs) m x=some v
 |[],_,_,_,_,h,_,_=>by simp at h
 |_::_,[],_,_,_,_,h,_=>by simp at h
 |p::P,w::vs,0,m,nd,h1,h2,hk=>by
  simp at h1 h2;subst h1;subst h2;show bindL kindOf ((p,w)::P.zip vs) m p=_;unfold bindL;rw[ae fun v hv=>(?FI).1 (QG hv).1,yf hk];simp
 |p::P,w::vs,i+1,m,nd,h1,h2,hk=>by
  show bindL kindOf ((p,w)::P.zip vs) m x=_;unfold bindL;exact aI (i:=i) (?FI).2 (by simpa using h1) (by simpa using h2) hk
theorem ay {kindOf:?xH}:∀ {P:List Str} {vs:List Value} {i:Nat} {m:Str->Option Value},P.Nodup->P[i]?=some x->vs[i]?=some v->kindOf x≠some .local->
  bindC kindOf (P.zip vs) m x=some v
 |[],_,_,_,_,h,_,_=>by simp at h
 |_::_,[],_,_,_,_,h,_=>by simp at h
 |p::P,w::vs,0,m,nd,h1,h2,hk=>by
  simp at h1 h2;subst h1;subst h2;show bindC kindOf ((p,w)::P.zip vs) m p=_;unfold bindC;rw[X0 fun v hv=>(?FI).1 (QG hv).1,ye hk];simp
 |p::P,w::vs,i+1,m,nd,h1,h2,hk=>by
  show bindC kindOf ((p,w)::P.zip vs) m x=_;unfold bindC;exact ay (i:=i) (?FI).2 (by simpa using h1) (by simpa using h2) hk
def start (N:?A0)(vs:?AL):St:=vs.map some++List.replicate (N.length - vs.length) none
def xi (CX:CXT)(P:?A6)(w:?A5)(K:?A1)(mg:?G)(base:Heap)(N:?A0)(qual:Str)(scope:?BR)(f:Addr)(cd:?AK)(A:?Ad)(outer:?CU)(s:?AI)(H:Hp)(E:XK):Cx where
 prog:=P
 w:=w
 K:=K
 mg:=mg
 base:=base
 A:=A.deeper ?EW
 N:=N
 s₀:=s
 H₀:=H
 env:=envOfC qual scope s.heap.objs.size f cd
 outer:=outer
 stack:=envOfC qual scope s.heap.objs.size f cd::outer
 ex:=[]
 calm:=true
 fn:=fun _=>true
 pn:=[]
 xe:=fun e s'=>wpAny ?Bc (A.deeper ?EW) (leaving ?EW e) (fun _ s''=>CX outer H s E e s'') (fun e' s''=>CX outer H s E e' s'') s'
theorem dW {sc:?BR}{n:Nat}{x:Str}(h:sc.names.lookup x=some .cell):∃ c,(cellsFrom n sc.names []).lookup x=some c:=by
 have q:=W.cellsFrom_some sc.names n [] (.inl h);exact JJ.mp q
theorem oI {CX:CXT}{P:?A6}{w:?A5}{K:?A1}{mg:?G}{base:Heap}{N ps:?A0}{qual:Str}{scope:?BR}{f:Addr}{cd:?AK}{A:?Ad}{outer:?CU}{s s1:?AI}{H:Hp}{E:XK}{us:?AX}{vs:?AL}
  (S:?PN) (hd:?yZ) (e0:?NN) (hl:vs.length=ps.length) (r:?It)
  (x:InCallC s s.heap.objs.size (bindL (?EW).kindOf ?DW fun _=>none) (cellsFrom ?zD scope.names []) (bindC (?EW).kindOf ?DW fun _=>none) s1) :
  Inv ?JG [] ?E6 H s1:=by
 have hpl:ps.length<=N.length:=by have:=congrArg List.length S.pre;rw[yH] at this;lia
 obtain⟨h1,tk,rfl,hk⟩:=x.done;have noA:∀ b:Addr,b∉(?JG).ex:=fun b z=>absurd (show b∈([]:?Ar) from z) (by simp);refine⟨⟨e0.mod,S.kind,rfl,rfl,yg _,fun y z c h1 h2=>?_,fun y hy=>?_,fun y c _ h=>?_,fun _=>hd,Around.frames_deeper e0.frames,.inr ?DR,fun b z=>absurd z (noA b),e0.bs,e0.bsz,fun b _ _=>noA b,fun b z=>absurd z (noA b),e0.funs,e0.frf⟩,
  rfl,e0.bare,Un.kept hk,⟨_,x.toInCall.ns,fun i y v h1 h2 h3=>?_⟩,fun y c h=>⟨_,x.cell y c h⟩,e0.hok.fresh ?AH,fun y c h=>?_,fun p hp=>absurd (show p∈([]:?Q) from hp) (by simp),e0.hok.kept hk,?_⟩
 .exact name_of_addr x.apart (PySem.mem_of_lookup h1) (PySem.mem_of_lookup h2)
 .have hy:scope.names.lookup y=some .cell∨scope.names.lookup y=some .free:=hy;rcases hy with hy|hy
  .exact dW hy
  .exact absurd rfl (S.nofree _ (PySem.mem_of_lookup hy))
 .exact ?NA
 .have hi:i<vs.length:=by
   unfold start at h2;by_cases hi:i<vs.length
   .exact hi
   .rw[qz (by simpa using hi)] at h2;rw[jq] at h2;split at h2 <;> cases h2
  have ha:vs[i]?=some v:=by
   unfold start at h2;rw[Qf (by simpa using hi),yz] at h2;cases e:vs[i]? with
   |none=>rw[e] at h2;cases h2
   |some a=>rw[e] at h2;cases h2;rfl
  obtain⟨u,hu,rv⟩:=r.get ha;have hp:ps[i]?=some y:=by
   rw[←S.pre,List.getElem?_take_of_lt ?A];exact h1
  have ndP:ps.Nodup:=by rw[←S.pre];exact S.nd.sublist (jB _ _)
  refine⟨u,rv,?_⟩;rcases S.par y (yx hp) with k|k
  .exact .inl ⟨k,aI ndP hp hu k⟩
  .obtain⟨c,e⟩:=dW (n:=?zD) k;refine .inr ⟨.inl k,c,e,?_⟩;have q:=x.cell y c e;rw[ay ndP hp hu (by show scope.names.lookup y≠_;rw[k];decide)] at q;exact q
 .exact e0.hok.fresh ?NA
 .unfold start;show _=N.length;rw[yK,yd,Q7];lia
theorem Ho {CX:CXT}{P:?A6}{w:?A5}{K:?A1}{mg:?G}{base:Heap}{k:Nat}{f:Addr}{name qual:Str}{params:Arguments}{body:?Aw}{scope:?BR}{dV kV doc pm cdv ct oc:?AK}{an od:?F6}
  {osl:?Ei} {N ps:?A0} {sp:Sp} (lk:K.lookup f=some ⟨oc,od,.func ?MX,osl⟩) (hcd:W.codeIn K cdv qual=true) (S:?PN)
  (len:∀ vs H Q E,?wZ)
  (hbody:∀ (A:Around) (outer:List Env) (s:Shared) (H:Hp) (vs:List V) (Q:VK) (E:XK),Room k (A.deeper (envOfC qual scope s.heap.objs.size f cdv))->sp vs H Q E->
   ∃ t,PSs ?Md body t/\t {nx:=fun _ H'=>?Aq,rt:=Q} ?E6 H) :
  FnOk P w K mg base CX (k+1) f ?MX ps sp:=by
 refine⟨len,fun A outer s H args us vs Q E hr e0 hb r hsp=>?_⟩;have hl:=len _ _ _ _ hsp;have KX:K.In s.heap:=e0.mod.kin.keeps fun b o e=>(e0.bs b o e).1;have lim:s.heap.NoLimit:=e0.mod.nolimit.keeps fun b o e=>(e0.bs b o e).1;have hkind:∀ y∈ps.zip us,scope.names.lookup y.1=some .local∨(scope.names.lookup y.1=some .cell/\((cellsFrom ?zD scope.names []).lookup y.1).isSome=true):=fun⟨n,v⟩ hy=>by
  rcases S.par n (QG hy).1 with q|q
  .exact ?Bk
  .exact .inr ⟨q,W.cellsFrom_some _ _ _ ?Bk⟩
 refine codeAny_call_function hr.depth (KX _ _ lk) rfl S.co S.gen rfl (W.codeRec_of KX hcd) (hb _ _ _ _ ?_);refine wpAny_newFunctionEnv_cells S.kind hkind fun env he s1 x=>?_;subst he;refine⟨lim.keeps x.toInCall.keep,codeAny_func ?_⟩;obtain⟨t,ht,hq⟩:=hbody A outer s H vs Q E (hr.deeper _) hsp;have I:Inv (xi CX P w K mg base N qual scope f cdv A outer s H E) [] (start N vs) H s1:=oI S hr.hd e0 hl r x;refine qa (ht [] s1 ?E6 H _ I hq) (fun fl s' hs=>?_) fun e s' hs=>hs;have fin:∀ {σ':St} {H':Hp} {v:V} {u:Value},Inv ?Md [] σ' H' s'->YV v u->Q v H'->CE outer P w H s Q u s':=
  fun {σ' H' v u} J rv q=>⟨v,H',J.os,J.bare,J.base,J.hok,rv,q⟩
 cases fl with
 |ret u=>
  obtain⟨v,σ',H',J,rv,q⟩:=hs;exact fin J rv q
 |next=>
  obtain⟨σ',H',J,q⟩:=hs;exact fin (v:=V.non) (u:=Value.none) J rfl q
 |brk=>
  obtain⟨_,_,_,q⟩:=hs;exact False.elim q
 |cont=>
  obtain⟨_,_,_,q⟩:=hs;exact False.elim q
section
variable {X:Cx}{x:Str}{p pos:Pos}{e:Expr}{es:?AW}{t:TA}{id T:?Bv}{r:?xJ}
def tCB (r:?xJ)(t:TA):TE:=fun σ H Q=>t σ H fun vs H1=>r vs H1 Q
theorem rQ (hc:V5 X ?Co r)(hg:?Ai)(hm:X.mg x=none)(hv:bootBuiltins x=some ?Co)(ha:?qP)(hn:x ≠ "__name__" :=by decide)(hdb:?L:=by decide)
  (he:?T:=by rfl) (hpl:?zA:=by rfl):?PE:=by
 intro pins s σ H Q I h;refine ?Me;exact PyProof.Rows.callWith_builtin1 (thn ?Cf fun us s1 ⟨vs,H1,I1,r1,q1⟩=>?Mz) he hpl
theorem X1 (hc:V5 X (.type T) r)(hg:?Ai)(hm:X.mg x=none)(hv:bootBuiltins x=some (.type T))(ha:?qP)(hn:x ≠ "__name__" :=by decide)(hdb:?L:=by decide)
  (he:?T:=by rfl) (hpl:?zA:=by rfl):?PE:=by
 intro pins s σ H Q I h;refine ?Me;exact PyProof.Rows.callWith_type1 (thn ?Cf fun us s1 ⟨vs,H1,I1,r1,q1⟩=>?Mz) he hpl
end
end L2
namespace HT
open PySem PyProof.Rows
section
open PySem.SeqAt
open PySem.AutoSeq1 (wpAny_loadPart')
open PySem.MeetsSeq PySem.MeetsSeq2 PySem.MeetsSeq3
end
section
theorem C6(ht:IsTup s.heap t vs.toArray)(hb:IsTup s.heap b ws.toArray)(hv:vs≠[])
  (h1:ws=[]->Q (.ref t) s) (h2:ws≠[]->Q (.ref s.heap.objs.size) {s with heap:=s.heap.push {cls:=.type "tuple", data:=.seq (vs++ws).toArray}})
  (hsz:vs.length+ws.length<=sizeLine):wpAny (model prog w) A (binaryOp .Add (.ref t) (.ref b)) Q E s:=by
 obtain⟨⟨cls,dd,data,sl⟩,ho,hc,n,hd⟩:=id ht;obtain⟨⟨cls2,dd2,data2,sl2⟩,ho2,hc2,n2,hd2⟩:=id hb;simp only at hc hd hc2 hd2;subst hc hd hc2 hd2;have e:vs.toArray++ws.toArray=(vs++ws).toArray:=by simp
 by_cases hw:ws=[]
 .exact concat_meets ⟨_,ho,rfl⟩ ⟨_,ho2,rfl⟩ noFill_tuple_add seq_tuple_add PySem.F.slot_tuple_add PySem.F.entry_tuple_add (PySem.F.args_tuple_add_2 _ _)
   (tuple_addW1 t b vs.toArray ws.toArray n n2 dd dd2 sl sl2 (by simpa using hv) (by simp[hw])) ⟨ho,ho2,h1 hw⟩
 .refine concat_meets ⟨_,ho,rfl⟩ ⟨_,ho2,rfl⟩ noFill_tuple_add seq_tuple_add PySem.F.slot_tuple_add PySem.F.entry_tuple_add (PySem.F.args_tuple_add_2 _ _)
   (tuple_addW2 t b vs.toArray ws.toArray n n2 dd dd2 sl sl2 (by simpa using hv) (by simpa using hw) (by rw[yY,yY];exact hsz)) ⟨ho,ho2,?_⟩
  rw[e];exact h2 hw
def sIx (n d:Nat):Option Int->Nat
 |none=>d
 |some v=>if v<0 then (v+(n:Int)).toNat else min v.toNat n
theorem eV (n d:Nat):sIx n d none=d:=rfl
theorem B7 (n d k:Nat):sIx n d (some (k:Int))=min k n:=by
 show(if (k:Int)<0 then ((k:Int)+(n:Int)).toNat else min (k:Int).toNat n)=min k n;rw[ye (by lia),Qz]
theorem Gv (n d:Nat)(hd:d<=n)(o:?BJ):sIx n d o<=n:=by
 cases o with
 |none=>exact hd
 |some v=>
  show(if v<0 then (v+(n:Int)).toNat else min v.toNat n)<=n;by_cases hv:v<0
  .rw[yf hv];lia
  .rw[ye hv];exact Nat.min_le_right _ _
theorem bV (v:Int)(n d:Nat):(if v<0 then max (v+(n:Int)) 0 else min v (n:Int))=((sIx n d ?CY:Nat):Int):=by
 show(if v<0 then max (v+(n:Int)) 0 else min v (n:Int))=(((if v<0 then (v+(n:Int)).toNat else min v.toNat n):Nat):Int)
 by_cases hv:v<0
 .simp only[yf hv];lia
 .simp only[ye hv];lia
theorem iT (lo hi:?BJ)(n:Nat):Builtin.Slice.sliceAdjust lo hi 1 (n:Int)=(((sIx n 0 lo:Nat):Int),((sIx n n hi:Nat):Int)):=by
 have h1:¬ ((1:Int)<0):=by lia
 unfold Builtin.Slice.sliceAdjust;simp only[h1,if_false];refine Prod.ext ?_ ?_
 .cases lo with
  |none=>rfl
  |some v=>exact bV v n 0
 .cases hi with
  |none=>rfl
  |some v=>exact bV v n n
theorem iE (i j:Nat):Builtin.Slice.slicePlaces (i:Int) (j:Int) 1=j - i:=by
 unfold Builtin.Slice.slicePlaces;have h1:(1:Int) > 0:=by lia
 simp only[h1,if_true,Int.ediv_one];split <;> lia
theorem WA {o:?BJ}{Q:Option Int->Shared->Prop}(p:IsPart v o)(h:Q o s):wpAny ?AG A (Builtin.Slice.slicePartIndex v) Q E s:=by
 cases p with
 |none=>exact slicePart_none h
 |int i t=>exact slicePart_int h
theorem Uk {lo hi:?BJ}{n:Nat}{Q:Int×Int×Nat->Shared->Prop}(hs:?N5)(pl:IsPart vl lo)(pu:IsPart vu hi)
  (h:Q (((sIx n 0 lo:Nat):Int),1,sIx n n hi - sIx n 0 lo) s):wpAny ?AG A (Builtin.Slice.sliceApplied (.ref sl) (pure (n:Int))) Q E s:=by
 obtain⟨os,hos,hcs,hds⟩:=id hs;unfold Builtin.Slice.sliceApplied Builtin.Slice.sliceFields;refine ya (ya (YR hos hds (x:=vl) rfl (ya (YR hos hds (x:=vu) rfl (ya (YR hos hds (x:=?An) rfl (yj ?_)))))));refine ya (slicePart_none ?_);show wpAny _ _ (if ((1:Int)==0)=true then _ else _) _ _ s;rw[ye (by decide)];refine ya (WA pl (ya (WA pu (ya (yj ?_)))));show wpAny _ _ (match Builtin.Slice.sliceAdjust lo hi 1 (n:Int) with|(lo,hi)=>pure (lo,(1:Int),Builtin.Slice.slicePlaces lo hi 1)) _ _ s;rw[iT lo hi n];show wpAny _ _ (pure (((sIx n 0 lo:Nat):Int),(1:Int),Builtin.Slice.slicePlaces ((sIx n 0 lo:Nat):Int) ((sIx n n hi:Nat):Int) 1)) _ _ s;rw[iE];exact yj h
theorem Ad (xs:?CN)(i k:Nat):((?Es).filterMap fun (m:Nat)=>xs[((i:Int)+(m:Int)*1).toNat]?).toArray=((xs.toList.drop i).take k).toArray:=by
 have e:(fun (m:Nat)=>xs[((i:Int)+(m:Int)*1).toNat]?)=fun m=>xs[i+m]?:=by
  funext m;have:((i:Int)+(m:Int)*1).toNat=i+m:=by lia
  rw[this]
 rw[e];have:=pick_run xs i k;rw[List.filterMap_map] at this;have e2:((fun x=>xs[x]?) ∘ fun x=>i+x)=fun m=>xs[i+m]?:=rfl;rw[e2] at this;rw[this]
theorem uY {items:?CN}{lo hi:?BJ}{Q:?M}(ht:IsTup s.heap t items)(hs:?N5)(pl:IsPart vl lo)(pu:IsPart vu hi)
  (hw:¬ (sIx items.size 0 lo=0/\sIx items.size items.size hi=items.size))
  (h:Q ?Ef {s with heap:=s.heap.push {cls:=?zX, data:=.seq ((?Ml).take ?uN).toArray}})
  (hsz:items.size<=sizeLine):wpAny ?AG A (getItem (.ref t) (.ref sl)) Q E s:=by
 have htake:sizeOk (.seq ((items.toList.drop (sIx items.size 0 lo)).take (sIx items.size items.size hi - sIx items.size 0 lo)).toArray):=by
  show((?Ml).take ?uN).toArray.size<=sizeLine;rw[yY,yH,j7,Array.length_toList];lia
 have hj:sIx items.size items.size hi<=items.size:=Gv _ _ ?AH hi;obtain⟨os,hos,hcs,hds⟩:=id hs;have hTs:s.TypeIs (.ref sl) "slice" := ⟨os,hos,hcs⟩
 unfold getItem
 try with_reducible refine YA ?_
 first|refine ya (yj ?_)|skip
 refine ya (wpAny_sequenceKey ht.typeIs ?B ?_);refine ya (wpAny_callSpecial?_slot (name:=Str.ofString "__getitem__") ht.typeIs PyProof.Rows.slot_tuple_getitem
  (qA PyProof.Rows.slot_tuple_getitem ht.typeIs entry_tuple_getitem ?_ (args_tuple_getitem _ _)))
 show wpAny _ _ (Builtin.Tuple.tupleItemsOf (.ref t) >>= _) _ _ s;refine ya (tupleItemsOf_ ht ?_);refine ya (wpAny_typeOf hTs ?_);rw[yf (by decide)];refine ya (Uk hs pl pu ?_);have hno:¬ ((((sIx items.size 0 lo:Nat):Int)==0&&(1:Int)==1&&(sIx items.size items.size hi - sIx items.size 0 lo)==items.size)=true):=by
  intro q;rw[Yw,Yw] at q;have q1:((sIx items.size 0 lo:Nat):Int)=0:=eq_of_beq q.1.1;have q2:sIx items.size items.size hi - sIx items.size 0 lo=items.size:=eq_of_beq q.2;exact hw ⟨?A,?A⟩
 show wpAny _ _ (if (((sIx items.size 0 lo:Nat):Int)==0&&(1:Int)==1&&?uN==items.size)=true then _ else _) _ _ s;rw[ye hno,Ad]
 first
  |exact ya (m:=?H3) (qe ?HP htake)
  |exact ya (m:=?H3) (qe (ya (yj ?HP)) htake)
  |exact ya (ya (m:=?H3) (qe (yj ?HP) htake))
  |exact ya (ya (m:=?H3) (qe ?HP htake))
end
end HT
namespace L2
open PySem PySem.Spec PyProof.Rows
abbrev TO:=St->Hp->(Option Int->Hp->Prop)->Prop
def PO (X:Cx)(e:?F0)(t:TO):Prop:=
 ∀ (pins:List (Addr×Obj)) (s:Shared) (σ:St) (H:Hp) (Q:Option Int->Hp->Prop),Inv X pins σ H s->t σ H Q->
  wpAny ?AD X.A (evalPart e X.env) (fun u s'=>∃ o H',Inv X pins σ H' s'/\IsPart u o/\Q o H') X.xe s
def CU:TO:=fun _ H Q=>Q none H
def HR (t:TE):TO:=fun σ H Q=>t σ H fun x H1=>∃ i,x=.int i/\Q (some i) H1
theorem gK {ns:?CQ}:∀ {us:List Value},qc ?CD us->IntsAre us ns:=by
 induction ns with
 |nil=>intro us r;rw[ji] at r;cases r;exact .nil
 |cons n ns ih=>
  intro us r;rw[yt] at r;cases r with
  |cons r1 r2=>
   obtain⟨t,e⟩:=r1;subst e;exact .cons n t (ih r2)
section
variable {X:Cx}{e:Expr}{te:TE}{lo hi:?F0}{tl th:TO}{pos p2:Pos}
theorem m9:PO X none CU:=by
 intro pins s σ H Q I h;rw[evalPart_none];exact yj ⟨none,H,I,?An,h⟩
theorem wZ (h:?EA):PO X ?D1 (HR te):=by
 intro pins s σ H Q I hw;rw[evalPart_some];refine thn ?OT fun u s1 ⟨x,H1,I1,r1,q1⟩=>?_;obtain⟨i,rfl,q⟩:=q1;obtain⟨t,rfl⟩:=r1;exact⟨some i,H1,I1,.int i t,q⟩
def SlR (X:Cx)(r:?jG):Prop:=
 ∀ (pins:List (Addr×Obj)) (s:Shared) (σ:St) (H:Hp) (x:V) (v vl vu:Value) (lo hi:Option Int) (sl:Addr) (Q:VK),Inv X pins σ H s->YV x v->s.heap.IsSliceOf sl vl vu .none->IsPart vl lo->IsPart vu hi->r x lo hi H Q->
  ∃ T id,typeLookup (.type T) "__getitem__" = pure (some ?Co)/\s.TypeIs v T/\wpAny ?AD X.A (getItem v (.ref sl)) ?Bn X.xe s
def tSl (r:?jG)(te:TE)(tl th:TO):TE:=fun σ H Q=>te σ H fun x H1=>tl σ H1 fun l H2=>th σ H2 fun u H3=>r x l u H3 Q
theorem uC {r:?jG}(hr:SlR X r)(he:?EA)(hl:PO X lo tl)(hu:PO X hi th):PE X (.Subscript e ?HO pos) (tSl r te tl th):=by
 intro pins s σ H Q I h;refine Subscript_ (thn ?DF fun v s1 ⟨x,H1,I1,r1,q1⟩=>?_);refine wpAny_Slice (thn (hl pins s1 σ H1 _ I1 q1) fun vl s2 ⟨l,H2,I2,pl,q2⟩=>thn (hu pins s2 σ H2 _ I2 q2) fun vu s3 ⟨u,H3,I3,pu,q3⟩=>?_);rw[evalPart_none];refine yj ?_;have I4:Inv X pins σ H3 {s3 with heap:=?uC}:=I3.kept (t':=s3.toks) fun b ob q=>yv _ q;obtain⟨T,id,hT,ht,hg⟩:=hr pins {s3 with heap:=?uC} σ H3 x v vl vu l u s3.heap.objs.size Q I4 r1 (Heap.IsSliceOf.new ..) pl pu q3;show wpAny ?AD X.A (subscriptTail e ?HO v (.ref s3.heap.objs.size)) ?Bn X.xe {s3 with heap:=?uC};exact tail_any (ops:=[.ref s3.heap.objs.size,v]) ht hT hg (by with_unfolding_all rfl)
def fq (xs:?AL)(lo hi:?BJ):?AL:=(xs.drop ?Ji).take ?uK
theorem U5 (xs:?AL)(lo hi:?BJ):(?Ez).length<=xs.length:=by
 unfold fq;rw[yH,j7];lia
def IQ (K:?A1):?jG:=fun x lo hi H Q=>∃ a xs,x=.ref a/\SqT K H a xs/\
 ¬ (HT.sIx xs.length 0 lo=0/\HT.sIx xs.length xs.length hi=xs.length)/\∀ p,H p=none->Q ?Bw (upd H p (.tup ?Ez))
theorem FY:SlR X (IQ X.K):=by
 intro pins s σ H x v vl vu lo hi sl Q I rx hs pl pu h;obtain⟨a,xs,rfl,hx,hw,q⟩:=h;cases rx;obtain⟨its,r,ht,hz⟩:=I.tuple hx;have hlen:its.toArray.size=xs.length:=by rw[yY];exact r.length.symm
 refine⟨"tuple", _,PyProof.Rows.slot_tuple_getitem.lookup,ht.typeIs,?_⟩;refine HT.uY ht hs pl pu (by rw[hlen];exact hw) ?_ (by rw[hlen];exact hz);rw[hlen];refine⟨.ref s.heap.objs.size,_,I.laid (t':=?Ac) (o:=.tup ?Ez) (fun b ob q=>?CV) ?AH ?_,rfl,q _ ?C9⟩;exact⟨?OY,_,(r.drop ?Ji).take ?uK,?LC⟩
def G8 (K:?A1):R2:=fun x y H Q=>∃ a b xs ys,x=.ref a/\y=.ref b/\SqT K H a xs/\SqT K H b ys/\xs≠[]/\xs.length+ys.length<=sizeLine/\
 (ys=[]->Q ?AB H)/\(ys≠[]->∀ p,H p=none->Q ?Bw (upd H p (.tup (xs++ys))))
theorem qc.nil_iff(r:?Is):us=[] ↔ xs=[]:=by
 cases r with
 |nil=>simp
 |cons _ _=>simp
theorem Di:OpR X ?Hz (G8 X.K):=by
 intro pins s σ H x y v u Q I rx ry h;obtain⟨a,b,xs,ys,rfl,rfl,ha,hb,hx,hz,q1,q2⟩:=h;cases rx;cases ry;obtain⟨its,r1,p1,_⟩:=I.tuple ha;obtain⟨its2,r2,p2,_⟩:=I.tuple hb;refine HT.C6 p1 p2 (fun z=>hx (r1.nil_iff.mp z)) (fun z=>⟨.ref a,H,I,rfl,q1 (r2.nil_iff.mp z)⟩) (fun z=>?_) (by rw[←r1.length,←r2.length];exact hz);refine⟨.ref s.heap.objs.size,_,I.laid (t':=?Ac) (o:=.tup (xs++ys)) (fun b ob q=>?CV) ?AH ?_,rfl,q2 (fun w=>z (r2.nil_iff.mpr w)) _ ?C9⟩;exact⟨by rw[yK];exact hz,_,r1.append r2,?LC⟩
end
def ixN (n:Nat)(i:Int):Option Nat:=if 0<=i then (if i<n then some i.toNat else none) else if -(n:Int)<=i then some (i+n).toNat else none
def atI(xs:?Ay)(i:Int):Option α:=(ixN xs.length i).bind fun j=>xs[j]?
theorem mN {i:Int}(h:ixN n i=some j):seqIndex? i n=some j/\j<n/\-(n:Int)<=i/\i<n:=by
 unfold ixN at h;by_cases h0:0<=i
 .rw[yf h0] at h;by_cases h1:i<n
  .rw[yf h1] at h;have e:i.toNat=j:=Option.some.inj h;exact⟨by rw[seqIndex_of h0 h1,e],by lia,by lia,h1⟩
  .rw[ye h1] at h;cases h
 .rw[ye h0] at h;by_cases h1:-(n:Int)<=i
  .rw[yf h1] at h;have e:(i+n).toNat=j:=Option.some.inj h;exact⟨by rw[seqIndex_neg (by lia) h1,e],by lia,h1,by lia⟩
  .rw[ye h1] at h;cases h
theorem a8 {i:Int}(h:atI xs i=some v):∃ j,seqIndex? i xs.length=some j/\xs[j]?=some v/\j<xs.length/\-(xs.length:Int)<=i/\i<xs.length:=by
 unfold atI at h;cases e:ixN xs.length i with
 |none=>rw[e] at h;cases h
 |some j=>
  rw[e] at h;obtain⟨h1,h2,h3,h4⟩:=mN e;exact⟨j,h1,h,h2,h3,h4⟩
theorem JX {α:Type}{xs:?Ay}{j:Nat}{v:α}(h:xs[j]?=some v):atI xs (j:Int)=some v:=by
 have hj:j<xs.length:=(yi.mp h).1;have e:ixN xs.length (j:Int)=some j:=by
  unfold ixN;rw[yf (by lia),yf ?A];simp
 unfold atI;rw[e];exact h
def Vz (b:Expr):Prop:=∀ o i,subscripted b false o i=operate [o,i] (getItem o i)
def IxR (X:Cx)(r:R2):Prop:=
 ∀ (value slice:Expr) (pins:List (Addr×Obj)) (s:Shared) (σ:St) (H:Hp) (x y:V) (v u:Value) (Q:VK),Inv X pins σ H s->YV x v->YV y u->r x y H Q->
  subscripted slice false v u=operate [v,u] (getItem v u)->wpAny ?AD X.A (subscriptTail value slice v u) ?Bn X.xe s
def MtR (X:Cx)(id:?Bv)(r:?jQ):Prop:=
 ∀ (pins:List (Addr×Obj)) (s:Shared) (σ:St) (H:Hp) (x:V) (xs:List V) (v:Value) (us:List Value) (Q:VK),Inv X pins σ H s->YV x v->qc xs us->r x xs H Q->
  wpAny ?AD X.A (call ?Co (v::us)) ?Bn X.xe s
section
variable {X:Cx}{a b:Expr}{ta tb:TE}{pos:Pos}
theorem lR(hr:IxR X r)(ha:?Ct)(hb:?E8)(hs:Vz b):PE X ?Dn ?IK:=by
 intro pins s σ H Q I h;exact Subscript_ (FC ha hb I h fun v u s2 x y H2 I2 rx ry q=>hr a b pins s2 σ H2 x y v u Q I2 rx ry q (hs _ _))
def Iw (K:?A1):R2:=fun x y H Q=>∃ p xs i v,x=.ref p/\y=.int i/\SqL K H p xs/\atI xs i=some v/\Q v H
def Ix (K:?A1):R2:=fun x y H Q=>∃ p xs i v,x=.ref p/\y=.int i/\SqT K H p xs/\atI xs i=some v/\Q v H
def IS:R2:=fun x y H Q=>∃ z i c,x=.str z/\y=.int i/\z.length<=sizeLine/\atI z.cps.toList i=some c/\Q (.str ?zK) H
theorem uH:IxR X (Iw X.K):=by
 intro value slice pins s σ H x y v u Q I rx ry h hs;obtain⟨p,xs,i,z,rfl,rfl,hq,he,q⟩:=h;cases rx;obtain⟨t,rfl⟩:=ry;obtain⟨its,r,pl,hz⟩:=I.list hq;obtain⟨j,h1,h2,h3,h4,h5⟩:=a8 he;obtain⟨w,ew,rw'⟩:=r.get h2;have hl:=r.length;have hn:=Ue;have fin:EP X pins σ Q w s:=⟨z,H,I,rw',q⟩
 by_cases h0:0<=i
 .have hj:i.toNat=j:=by
   rw[seqIndex_of h0 h5] at h1;exact ?Fp
  exact item_listR pl.isList h0 ?A (by rw[hj];simpa using ew) fin hs
 .have hj:(i+(its.toArray.size:Int)).toNat=j:=by
   rw[seqIndex_neg (by lia) h4] at h1;rw[yY,←hl];exact ?Fp
  exact subscriptTail_builtinR (x:=w) pl.isList.typeIs slot_list_getitem.lookup
   (wpAny_getItem_list_neg (Q:=fun r s'=>r=w/\EP X pins σ Q r s') pl.isList ?A (by rw[yY] <;> lia) ?A (by rw[hj];simpa using ew) ⟨rfl,fin⟩) hs
theorem Gz:IxR X (Ix X.K):=by
 intro value slice pins s σ H x y v u Q I rx ry h hs;obtain⟨p,xs,i,z,rfl,rfl,hq,he,q⟩:=h;cases rx;obtain⟨t,rfl⟩:=ry;obtain⟨its,r,pl,hz⟩:=I.tuple hq;obtain⟨j,h1,h2,h3,h4,h5⟩:=a8 he;obtain⟨w,ew,rw'⟩:=r.get h2;have hl:=r.length;have hn:=Ue;have fin:EP X pins σ Q w s:=⟨z,H,I,rw',q⟩
 exact subscriptTail_builtinR (x:=w) pl.typeIs slot_tuple_getitem.lookup
  (getItem_tuple (j:=j) (Q:=fun r s'=>r=w/\EP X pins σ Q r s') pl ?A ?A (by rw[yY,←hl];exact h1) (by simpa using ew) ⟨rfl,fin⟩) hs
theorem FQ:IxR X IS:=by
 intro value slice pins s σ H x y v u Q I rx ry h hs;obtain⟨z,i,c,rfl,rfl,hz,he,q⟩:=h;obtain⟨t,rfl⟩:=rx;obtain⟨t',rfl⟩:=ry;obtain⟨j,h1,h2,h3,h4,h5⟩:=a8 he;have hl:z.cps.toList.length=z.length:=by simp[Str.length]
 rw[hl] at h1 h4 h5;have hn:=Ue;exact tail_any (typeIs_str s z t) slot_str_getitem.lookup (getItem_str (c:=c) (by
  have e1:decide (i < -(2 ^ 63:Int))=false:=yA ?A;have e2:decide (i ≥ 2 ^ 63)=false:=yA ?A;rw[e1,e2,Bool.or_false]) (by rw[h1];simpa using h2) ⟨.str ?zK,H,?Ax,?DM,q⟩) hs
theorem i7 (its:?AX)(n j:Nat)(u:?AK):Obj.mapSeq (·.setIfInBounds j u) {cls:=?S, data:=?Dl}={cls:=?S, data:=.seq (its.set j u).toArray n}:=by
 simp[Obj.mapSeq]
theorem Inv.lst {pins:?Q}{σ:St}{H:Hp}{s:?AI}{p:Addr}{xs:?AL}(I:?A8)(h:H p=some ?Aa) :
  ∃ (its:List Value) (n:Nat),qc xs its/\s.heap.get? p=some {cls:=?S, data:=?Dl}/\xs.length<=sizeLine:=by
 obtain⟨z,its,n,r,e⟩:=I.hok p _ h;exact⟨its,n,r,e,z⟩
theorem Inv.lstUpd {pins:?Q}{σ:St}{H:Hp}{s:?AI}{p:Addr}{xs ys:?AL}{its its':?AX}{n n':Nat}{f:Obj->Obj}(I:?A8)(h:H p=some ?Aa)
  (ho:s.heap.get? p=some {cls:=?S, data:=?Dl}) (hf:f {cls:=?S, data:=?Dl}={cls:=?S, data:=.seq its'.toArray n'}) (r:qc ys its') (hz:ys.length<=sizeLine) (t:Nat) :
  Inv X pins σ (upd H p (.lst ys)) {s with heap:=s.heap.update p f,toks:=t}:=by
 have e:(s.heap.update p f).get? p=some {cls:=?S, data:=.seq its'.toArray n'}:=by
  rw[Heap.get?_update_self f ho (by rw[hf] <;> rfl),hf]
 refine I.write (x:=p) (e:=p) (by rw[h];trivial) ?A3 (fun b u hb q=>(Heap.get?_update_other _ _ (Ne.symm hb)).trans q) ?E4 ?_;exact⟨hz,its',n',r,e⟩
def Ht:V->V->V->Hp->(Hp->Prop)->Prop:=fun o i v H Q=>∃ p xs k j,o=.ref p/\i=.int k/\H p=some ?Aa/\ixN xs.length k=some j/\Q (upd H p (.lst (xs.set j v)))
theorem fk:FG X Ht:=by
 intro pins s σ H o i v ov iv u Q I ro ri rv h;obtain⟨p,xs,k,j,rfl,rfl,hp,hj,q⟩:=h;cases ro;obtain⟨t,rfl⟩:=ri;obtain⟨its,n,r,ho,hz⟩:=I.lst hp;obtain⟨h1,h2,h3,h4⟩:=mN hj;have hl:=r.length;have hn:=Ue;have I':Inv X pins σ (upd H p (.lst (xs.set j v))) {s with heap:=s.heap.update p (Obj.mapSeq (·.setIfInBounds j u))}:=
  I.lstUpd hp ho (i7 its n j u) (r.set rv j) (by rw[List.length_set];exact hz) s.toks
 by_cases h0:0<=k
 .have hk:k.toNat=j:=by
   rw[seqIndex_of h0 h4] at h1;exact ?Fp
  exact W.ki_setAt ho h0 ?A (by rw[yY,←hl];exact h4) (by rw[hk];exact⟨_,I',q⟩)
 .have hk:(k+(its.toArray.size:Int)).toNat=j:=by
   rw[seqIndex_neg (by lia) h3] at h1;rw[yY,←hl];exact ?Fp
  exact W.ki_setBack ho ?A (by rw[yY,←hl];exact h3) ?A (by rw[hk];exact⟨_,I',q⟩)
theorem nG (i:Int)(n d:Nat):max 0 (min (if i<0 then i+(n:Int) else i) (n:Int))=((HT.sIx n d (some i):Nat):Int):=by
 rw[←HT.bV];by_cases h:i<0
 .rw[yf h,yf h,Int.max_comm,Int.min_eq_left (Int.add_le_of_le_sub_right (by rw[Int.sub_self];exact yN h))]
 .rw[ye h,ye h];exact Int.max_eq_right (Int.le_min.mpr ⟨Int.not_lt.mp h,Int.natCast_nonneg n⟩)
theorem bi (lo hi:?BJ)(n:Nat):(?JR).1=((HT.sIx n 0 lo:Nat):Int)/\(?JR).2.1=((HT.sIx n n hi:Nat):Int)/\(?JR).2.2=1:=by
 refine⟨?_,?_,rfl⟩
 .cases lo with
  |none=>rfl
  |some i=>exact nG i n 0
 .cases hi with
  |none=>rfl
  |some i=>exact nG i n n
theorem Xr (its:?AX)(lo hi:?BJ):slicePick its.toArray lo hi none=((its.drop (HT.sIx its.length 0 lo)).take (HT.sIx its.length its.length hi - HT.sIx its.length 0 lo)).toArray:=by
 obtain⟨h1,h2,h3⟩:=bi lo hi its.toArray.size;unfold slicePick;rw[h1,h2,h3];simp only[sliceRange_one,pick_run,yY] <;> rfl
def Ha (K:?A1):?jG:=fun x lo hi H Q=>∃ a xs,x=.ref a/\SqL K H a xs/\∀ p,H p=none->Q ?Bw (upd H p (.lst ?Ez))
theorem bT:SlR X (Ha X.K):=by
 intro pins s σ H x v vl vu lo hi sl Q I rx hs pl pu h;obtain⟨a,xs,rfl,hx,q⟩:=h;cases rx;obtain⟨its,r,ht,hz⟩:=I.list hx;have hlen:=r.length;refine⟨"list", _,slot_list_getitem.lookup,ht.isList.typeIs,?_⟩;refine wpAny_getItem_list_slice ht.isList hs pl pu .none (by simp) ?_ (by rw[yY] <;> lia);rw[Xr,←hlen];refine⟨.ref s.heap.objs.size,_,I.laid (t':=?Ac) (o:=.lst ?Ez) (fun b ob q=>?CV) ?AH ?_,rfl,q _ ?C9⟩;exact⟨?OY,_,0,(r.drop ?Ji).take ?uK,yO _ rfl⟩
theorem Vn:V5 X (.builtin "len") (fun xs H Q=>∃ p ys,xs=[.ref p]/\(SqL X.K H p ys∨SqT X.K H p ys)/\Q ?Ku H):=by
 intro pins s σ H xs us Q I r h;obtain⟨p,ys,rfl,hq,q⟩:=h;obtain⟨u,rfl,rx⟩:=wc r;cases rx;have hn:=Ue;rcases hq with hq|hq
 .obtain⟨its,r',pl,hz⟩:=I.list hq;have hlen:=r'.length;exact Calls.call_len_list pl.isList ?wY ⟨?Ku,H,?Ax,⟨?zU,by rw[yY,hlen]⟩,q⟩
 .obtain⟨its,r',pl,hz⟩:=I.tuple hq;have hlen:=r'.length;exact len_tuple pl ?wY ⟨?Ku,H,?Ax,⟨?zU,by rw[yY,hlen]⟩,q⟩
theorem aP:V5 X (.builtin "len") (fun xs H Q=>∃ z,xs=[.str z]/\z.length<=sizeLine/\Q (.int z.length) H):=by
 intro pins s σ H xs us Q I r h;obtain⟨z,rfl,hz,q⟩:=h;obtain⟨u,rfl,t,rfl⟩:=wc r;have hn:=Ue;exact len_str ?A ⟨.int z.length,H,?Ax,?DM,q⟩
theorem bN:V5 X (.type "list") (fun xs H Q=>∃ p ys,xs=[.ref p]/\(SqL X.K H p ys∨SqT X.K H p ys)/\∀ l,H l=none->Q (.ref l) ?PR):=by
 intro pins s σ H xs us Q I r h;obtain⟨p,ys,rfl,hq,q⟩:=h;obtain⟨u,rfl,rx⟩:=wc r;cases rx;have fin:∀ (its:List Value),qc ys its->ys.length<=sizeLine->∀ (h':Heap) (c':Nat),(∀ b o',s.heap.get? b=some o'->h'.get? b=some o')->
   h'.get? s.heap.objs.size=some {cls:=.type "list", dict:=none,data:=.seq its.toArray c',slots:=#[]}->EP X pins σ Q (.ref s.heap.objs.size) {s with heap:=h'}:=fun its r' hz h' c' kp e=>
  ⟨.ref s.heap.objs.size,_,I.laid (t':=?Ac) kp ?AH (show qQ X.prog X.w _ h' _ (.lst ys) from ⟨hz,its,c',r',e⟩),rfl,q _ ?C9⟩
 rcases hq with hq|hq
 .obtain⟨its,r',pl,hz⟩:=I.list hq;have hlen:=r'.length;obtain⟨o,ho,hc,n,hd⟩:=pl.isList;exact call_list_seq p (.inl rfl) ho hc hd (fun h' c' kp e=>?Nv) ?wY
 .obtain⟨its,r',pl,hz⟩:=I.tuple hq;have hlen:=r'.length;obtain⟨o,ho,hc,n,hd⟩:=pl;exact call_list_seq p (.inr rfl) ho hc hd (fun h' c' kp e=>?Nv) ?wY
theorem Xp:V5 X (.type "tuple") (fun xs H Q=>∃ p ys,xs=[.ref p]/\((SqL X.K H p ys/\∀ l,H l=none->Q (.ref l) (upd H l (.tup ys)))∨(SqT X.K H p ys/\Q (.ref p) H))):=by
 intro pins s σ H xs us Q I r h;obtain⟨p,ys,rfl,h⟩:=h;obtain⟨u,rfl,rx⟩:=wc r;cases rx;rcases h with ⟨hq,q⟩|⟨hq,q⟩
 .obtain⟨its,r',pl,hz⟩:=I.list hq;have hlen:=r'.length;refine call_tuple_list pl.isList (fun h' kp=>?_) ?wY;have I1:Inv X pins σ H {s with heap:=h'}:=I.kept (t':=?Ac) kp;have I2:Inv X pins σ (upd H h'.objs.size (.tup ys)) {s with heap:=h'.push {cls:=.type "tuple", data:=.seq its.toArray}}:=
   I1.laid (t':=?Ac) (fun b o e=>?At) ?AH (show qQ X.prog X.w _ _ _ (.tup ys) from ⟨hz,its,r',?LC⟩)
  exact⟨.ref h'.objs.size,_,I2,rfl,q _ ?Op⟩
 .obtain⟨its,r',pl,hz⟩:=I.tuple hq;exact call_tuple_same pl ⟨.ref p,H,I,rfl,q⟩
def tyV (K:?A1)(T:?Bv)(x:V)(H:Hp):Prop:=match x with
 |.str _=>T = "str"
 |.int _=>T = "int"
 |.ref p=>(T = "list" /\ ∃ xs,SqL K H p xs)∨(T = "tuple" /\ ∃ o,K.lookup p=some o/\o.cls=.type "tuple" /\ o.dict=none) ∨
   (T = "dict" /\ ((∃ kvs,H p=some ?Bu)∨∃ kvs,H p=some ?CS))∨(T = "set" /\ ∃ S n,H p=some (.set S n))
 |_=>False
theorem Fc(I:?A8)(r:YV x v)(ty:tyV X.K T x H) :
  s.TypeIs v T/\∀ a,v=.ref a->∃ ob,s.heap.get? a=some ob/\ob.dict=none:=by
 cases x with
 |str z=>
  obtain⟨t,rfl⟩:=r;cases (show T = "str" from ty);exact⟨typeIs_str s z t,fun _ e=>nomatch e⟩
 |int i=>
  obtain⟨t,rfl⟩:=r;cases (show T = "int" from ty);exact⟨typeIs_int s i t,fun _ e=>nomatch e⟩
 |ref p=>
  cases r;rcases ty with ⟨rfl,xs,hq⟩|⟨rfl,o,hk,hc,hd⟩|⟨rfl,hk⟩|⟨rfl,S,n,hk⟩
  .obtain⟨its,_,pl,_⟩:=I.list hq;refine⟨pl.isList.typeIs,fun a e=>?_⟩;cases e;obtain⟨o,n,e,c,hd,_⟩:=pl;exact⟨o,e,hd⟩
  .refine⟨⟨o,I.kIn p o hk,hc⟩,fun a e=>?_⟩;cases e;exact⟨o,I.kIn _ o hk,hd⟩
  .have z:∃ o,s.heap.get? p=some o/\o.ExactDict:=by
    rcases hk with ⟨kvs,hk⟩|⟨kvs,hk⟩
    .obtain⟨_,_,_,_,o,_,_,e,ex,_⟩:=I.hok p _ hk;exact⟨o,e,ex⟩
    .obtain⟨_,_,_,_,o,_,_,e,ex,_⟩:=I.hok p _ hk;exact⟨o,e,ex⟩
   obtain⟨o,e,ex⟩:=z;refine⟨⟨o,e,ex.1⟩,fun a e2=>?_⟩;cases e2;exact⟨o,e,ex.2.1⟩
  .obtain⟨o,_,_,_,e,ex,_⟩:=I.hok p _ hk;refine⟨⟨o,e,ex.1⟩,fun a e2=>?_⟩;cases e2;exact⟨o,e,ex.2.1⟩
 |_=>exact False.elim ty
def tBM (K:?A1)(T:?Bv)(r:?jQ)(to:TE)(t:TA):TE:=fun σ H Q=>to σ H fun x H1=>tyV K T x H1/\t σ H1 fun xs H2=>r x xs H2 Q
variable {o e:Expr}{es:?AW}{to:TE}{t:TA}{name:Str}{apos cpos:Pos}{T id:?Bv}{r:?jQ}
theorem nv (pa:PlainAttrs T)(slot:Slot T name id)(hty:typeOf ?Co=pure (.type "method_descriptor"))(hm:MtR X id r)(ho:PE X o to)(ha:?qP)
  (hbase:attributeBase o name X.env (eval o X.env)=eval o X.env:=by rfl)
  (hfew:((backTo cpos (starEach (e::es) X.env)).all (fun x=>!x.1)&&(backToKw cpos (keywordEach [] X.env)).all (fun x=>x.1.isSome)
   && decide ((e::es).length+([]:?IG).length+(if ([]:?IG).isEmpty then 0 else 1)<30))=true:=by rfl)
  (hline:(apos.endLine==cpos.line)=true:=by rfl) (hs:?T:=by rfl) (hplain:(backTo cpos ?H4).any ?C=false:=by rfl) :
  PE X (.Call (.Attribute o name apos) (e::es) [] cpos) (tBM X.K T r to t):=by
 intro pins s σ H Q I h;refine wpAny_Call_method_late hbase hfew hline rfl (thn ?HK fun v s1 ⟨x,H1,I1,r1,ty,q1⟩=>?_);obtain⟨h1,h2⟩:=Fc I1 r1 ty;refine⟨T,id,pa,slot,hty,h1,h2,?_⟩;have hA:=ha cpos pins s1 σ H1 _ I1 q1;rw[hs] at hA ⊢;refine Calls.callWith_builtin (by show(false||(backTo cpos ?H4).any ?C)=false;rw[hplain] <;> rfl) (Calls.evalArgs_plain ?_);exact thn hA fun us s2 ⟨vs,H2,I2,r2,q2⟩=>hm pins s2 σ H2 x vs v us Q I2 r1 r2 q2
/- xs.append(e),list.index on a module's tuple .. are MtR facts of 06m -/
end
def MtM (X:Cx)(id:?Bv)(r:?jQ):Prop:=
 ∀ (pins:List (Addr×Obj)) (s:Shared) (σ:St) (H:Hp) (x:V) (xs:List V) (v:Value) (us:List Value) (Q:VK),Inv X pins σ H s->YV x v->qc xs us->r x xs H Q->
  wpAny ?AD X.A (call ?Co (v::us)) ?Bn X.xe s
theorem qc.one:∀ {x:V} {us:List Value},qc [x] us->∃ u,us=[u]/\YV x u
 |_,_,.cons r .nil=>⟨_,rfl,r⟩
section
theorem Inv.lset {its its':?AX}{n:Nat}{f:Array Value->Array Value}{t':Nat}(I:?A8)(hH:H l=some ?Aa)
  (e:s.heap.get? l=some {cls:=?S, data:=?Dl}) (hf:f its.toArray=its'.toArray) (hv:qc ys its') (hz:ys.length<=sizeLine) :
  Inv X pins σ ?PR {s with heap:=s.heap.update l (Obj.mapSeq f),toks:=t'}:=by
 have q:=PySem.IsL.update e f;rw[hf] at q;refine I.write (x:=l) (e:=l) (by rw[hH];exact ?Bx) ?A3 (fun b' u hb hu=>(Heap.get?_update_other s.heap (Obj.mapSeq f) (Ne.symm hb)).trans hu) ⟨_,q⟩ ?_;exact⟨hz,its',_,hv,q⟩
theorem Inv.lnew(I:?A8)(hv:qc ys its)(hz:ys.length<=sizeLine) :
  Inv X pins σ (upd H s.heap.objs.size (.lst ys)) {s with heap:=s.heap.push {cls:=?S, data:=.seq its.toArray},toks:=t'}:=
 I.laid (fun _ _ q=>?CV) ?AH ⟨hz,its,0,hv,?CT⟩
theorem Inv.fresh (I:?A8):H s.heap.objs.size=none:=I.hok.fresh ?AH
theorem Inv.lstM (I:?A8)(hH:H l=some ?Aa):xs.length<=sizeLine/\∃ (its:List Value) (n:Nat),qc xs its/\xs.length=its.length/\s.heap.get? l=some {cls:=?S, data:=?Dl}:=by
 obtain⟨z,its,n,r,e⟩:=I.hok l _ hH;exact⟨z,its,n,r,r.length,e⟩
theorem tX(h:n<=sizeLine):Builtin.List.listTooLong n=false:=by
 unfold Builtin.List.listTooLong;exact yA ?A
end
section
def w6:?jQ:=fun x vs H Q=>∃ l xs y,x=.ref l/\vs=[y]/\H l=some ?Aa/\xs.length<sizeLine/\Q .non (upd H l (.lst (xs++[y])))
theorem Kk:MtM X "list.append" w6:=by
 intro pins s σ H x vs v us Q I rx rv h;obtain⟨l,xs,y,rfl,rfl,hH,hz,q⟩:=h;cases rx;obtain⟨u,rfl,ru⟩:=rv.one;obtain⟨z,its,n,r,hl,e⟩:=I.lstM hH;refine call_meets F.slot_list_append ⟨_,e,rfl⟩ F.entry_list_append (F.args_list_append_2 _ _) (PySem.list_append l its.toArray n u (by rw[yY];lia)) ⟨e,?_⟩;refine⟨.non,_,I.lset (its':=its++[u]) hH e (by simp) (r.append (.cons ru .nil)) ?_,rfl,q⟩;rw[yK,List.length_singleton];lia
def mF:?jQ:=fun x vs H Q=>∃ l b xs zs,x=.ref l/\vs=[.ref b]/\H l=some ?Aa/\H b=some (.lst zs)/\xs.length+zs.length<=sizeLine/\Q .non (upd H l (.lst (xs++zs)))
theorem pX:MtM X "list.extend" mF:=by
 intro pins s σ H x vs v us Q I rx rv h;obtain⟨l,b,xs,zs,rfl,rfl,hH,hB,hz,q⟩:=h;cases rx;obtain⟨u,rfl,ru⟩:=rv.one;cases ru;obtain⟨z,its,n,r,hl,e⟩:=I.lstM hH;obtain⟨z2,its2,n2,r2,hl2,e2⟩:=I.lstM hB;have hsz:its.toArray.size+its2.toArray.size<=sizeLine:=by rw[yY,yY];lia
 have hlong:¬ (!its.toArray.isEmpty&&Builtin.List.listTooLong (its.toArray.size+its2.toArray.size))=true:=by
  rw[tX hsz,Bool.and_false];exact yV
 refine call_meets F.slot_list_extend ⟨_,e,rfl⟩ F.entry_list_extend (F.args_list_extend_2 _ _)
  (AutoSeq1.list_extend_list_list_0 l its.toArray n b its2.toArray n2 hlong (by rw[yY];lia) ?A) ⟨e,e2,?_⟩
 refine⟨.non,_,I.lset (its':=its++its2) hH e (by simp) (r.append r2) ?_,rfl,q⟩;rw[yK];lia
end
section
variable {prog:?A6}{w:?A5}{A:?Ad}{E:?M}{s:?AI}
end
section
variable {X:Cx}
end
end L2
namespace Att
open PySem PySem.W PySem.Calls PyProof.Rows
theorem wD {P:?CZ}{h:Heap}:∀ (ns:List Int) (vs:List Value),WellAll P h vs (ns.map WData.int)->IntsAre vs ns:=by
 intro ns
 induction ns with
 |nil=>
  intro vs w;rw[ji] at w;cases w;exact .nil
 |cons n ns ih=>
  intro vs w;rw[yt] at w;cases w with
  |cons a b=>
   cases a;exact .cons _ _ (ih _ b)
theorem oK {l:OpenLaw}{n:Nat}(hn:l.most=some n){P:?CZ}{h:Heap}{args:List WData}{vals:?AX}
  (hpre:l.row.toRowW.claim.pre args=true) (hwl:WellAll P h vals args) :
  ∃ a vs ns,vals=[Value.ref a]/\args=[WData.list (ns.map WData.int)]/\h.get? a=some {cls:=?S, data:=?G8}/\IntsAre vs ns/\ns.length<=n:=by
 have hsh:WShape.hasAll [] args [.list .int]=true:=(pre_splitW hpre).1;have hc:l.pre.holds [] {args:=args}=true:=(pre_splitW hpre).2;obtain⟨d,r,rfl,h1,h2⟩:=hasAllW_cons hsh;obtain rfl:=hasAllW_nil h2;obtain⟨xs,rfl,h3⟩:=hasW_list h1;obtain⟨ns,rfl⟩:=items_int h3;have hlen:ns.length<=n:=by
  unfold OpenLaw.pre at hc;have h4:(WTm.not (.lt (.lit (.int (n:Int))) (.len (.arg 0)))).holds [] {args:=[.list (ns.map .int)]}=true:=by
   have h4:=(holds_andW hc).1;rw[hn] at h4;exact h4
  have h5:=condW_of h4 (w_not (w_lt w_lit (w_len_list (w_arg rfl))));rw[yd] at h5;refine Nat.le_of_not_lt fun q=>?_;have q':(n:Int)<((ns.length:Nat):Int):=by lia
  first
   | (rw[yL q'] at h5;exact absurd h5 ?B)
   | (simp at h5;lia)
 cases hwl with
 |cons w1 w2=>
  cases w2;cases w1 with
  |list ho hall=>exact⟨_,_,ns,rfl,rfl,ho,wD ns _ hall,hlen⟩
theorem oB (l:OpenLaw)(args:List WData):l.row.toRowW.claim.post args ?DQ args=true:=
 postW_of (r:=l.row.toRowW) (X:=(true==true))
  (show WShape.has [] ?DQ .bool=true by first|rfl|decide|simp[WShape.has,WShape.arms,WShape.armsAll])
  (show(WTm.eq .res (.lit ?DQ)).value [] {args:=args,res:=some ?DQ,after:=args}=some (.bool (true==true)) from w_eq_bool (w_res rfl) w_lit) rfl
theorem attach_call {l:OpenLaw}{n:Nat}{q:?A6}{loose:?A0}{XP:?G->Heap->Prop}{YP:World->Heap->Prop}{d:DefRec}
  (hn:l.most=some n) (hdf:d.params.defaults=[])
  (call:∀ (w:World) (s₀ s₁:Shared) (mg mb:Str->Option Value) (fa:Addr) (o:Obj) (pm cd doc:Value) (a:Addr) (vs:List Value) (ns:List Int),
   Ground q loose [] XP w s₀ mg mb s₁.heap->YP w s₁.heap->
   s₁.heap.get? fa=some o->o.data=.func (docDef d.name d.params d.body d.scope pm cd doc)->s₁.heap.CodeRec cd d.name->mg d.name=some ?EJ->
   s₁.heap.get? a=some {cls:=?S, data:=?G8}->IntsAre vs ns->ns.length<=n->s₁.gens=#[]->
   codeAny (model l.prog w) callerA (.call ?EJ ⟨?yK,[]⟩) ?uA s₁) :
  WalkO q loose XP YP l.row.toRowW d [] (fun f vs=>?KW):=by
 intro w s₀ s₁ mg mb G Y fa o pm cd doc dV kV ho hd hcd hD hmg hg args vals as hpre hlay hrd hwl hlo;obtain rfl:dV=.none:=Dflts.none hD hdf;obtain rfl:kV=.none:=Dflts.noKw hD;obtain⟨a,vs,ns,rfl,rfl,hobj,hints,hlen⟩:=oK hn hpre hwl;refine enter_call (codeAny_mono (call w s₀ s₁ mg mb fa o pm cd doc a vs ns G Y ho (fd_plain hd) hcd hmg hobj hints hlen hg) fun r s' hq=>?_);obtain⟨rfl,h2,h3,h4⟩:=hq;exact⟨.inl ⟨?DQ,?DQ,[],rfl,fun _=>rfl,?DQ,oB l _,fun _=>⟨List.Pairwise.nil,fun _ hm=>(nomatch hm)⟩⟩,h2,h3,h4⟩
section
variable {prog:?A6}{w:?A5}{A:?Ad}{E:?M}{s:?AI}{K:Frag}
end
end Att
namespace L2
open PySem PySem.Spec PyProof.Rows
theorem aK:∀ {vs:List Value} {ns:List Int},IntsAre vs ns->qc ?CD vs
 |_,_,.nil=>.nil
 |_,_,.cons n t h=>.cons ⟨t,rfl⟩ (aK h)
def ED (H:Hp):Prop:=∀ b,H b=none∨∃ o xs,H b=some (.frz o ?Aa)
theorem rk {P:?A6}{w:?A5}{K:?A1}{mg mb:?G}{CX:CXT}{k:Nat}{fa a:Addr}{fd:?Cx}{x:Str}{sp:Sp}{s₁:?AI}{vs:?AX}{ns:?CQ}
  (KX:K.In s₁.heap) (hns:s₁.heap.Ns mainGlobals mg) (hb:s₁.heap.Ns builtinsNs mb) (hbb:∀ x:Str,x ≠ "__name__" -> mb x=bootBuiltins x) (hlim:s₁.heap.NoLimit) (hsee:s₁.heap.NoSeer) (hg:s₁.gens=#[])
  (ha:s₁.heap.get? a=some {cls:=?S, data:=?G8}) (hi:IntsAre vs ns) (hl:ns.length<=sizeLine) (hr:Room k callerA)
  (F:∀ base:Heap,K.In base->base.Ns mainGlobals mg->FnOk P w K mg base CX k fa fd [x] sp) (hbind:∀ (s:Shared) (u:Value),BindsTo s fd ⟨[u],[]⟩ [(x,u)])
  (hsp:∀ H:Hp,ED H->SqL K H a ?CD->sp [.ref a] H (fun v _=>v=.bl true) fun _ _ _=>?AC)
  (hCX:∀ H e s',CX [] H s₁ (fun _ _ _=>?AC) e s'->False) :
  codeAny ?Bc callerA (.call ?EJ ⟨?yK,[]⟩) ?uA s₁:=by
 have rv:=aK hi;have lenV:=hi.length
 -- from an abstract heap in which nothing but the script may be tracked
 have core:∀ H:Hp,ED H->SqL K H a ?CD->HOk P w H s₁.heap->(∀ b,H b≠none->b=a)->(H a≠none->K.lookup a=none)->
   codeAny ?Bc callerA (.call ?EJ ⟨?yK,[]⟩) ?uA s₁:=by
  intro H hO hS hok hA hK;have base_of:∀ {b:Addr} {o:Obj},s₁.heap.get? b=some o->H b=none->(cL s₁.heap H).get? b=some o:=fun e n=>sN e n;have noA:∀ {b:Addr} {o:Obj} {es:Array DictEntry} {ep:Nat},s₁.heap.get? b=some o->o.data=.dict es ep->H b=none:=fun {b o es ep} e d=>by
   cases q:H b with
   |none=>rfl
   |some u=>
    have e':b=a:=hA b (by rw[q];simp);subst e';rw[ha] at e;cases e;have d':Data.seq vs.toArray _=Data.dict es ep:=d;cases d'
  have noM:∀ {b:Addr} {o:Obj},s₁.heap.get? b=some o->o.cls=.type "module" -> H b=none:=fun {b o} e d=>by
   cases q:H b with
   |none=>rfl
   |some u=>
    have e':b=a:=hA b (by rw[q];simp);subst e';rw[ha] at e;cases e;have d':Value.type "list" = Value.type "module" := d;injection d' with z;exact absurd z ?B
  have nsK:∀ {b:Addr} {m:Str->Option Value},s₁.heap.Ns b m->(cL s₁.heap H).Ns b m:=fun {b m} ⟨o,es,ep,e,d,r⟩=>⟨o,es,ep,base_of e (noA e d),d,r⟩
  have hKb:K.In (cL s₁.heap H):=fun b o e=>base_of (KX b o e) (by
   cases q:H b with
   |none=>rfl
   |some u=>
    have e':b=a:=hA b (by rw[q];simp);subst e';rw[hK (by rw[q];simp)] at e;cases e)
  have hM:Mod K mg (cL s₁.heap H):=⟨hKb,nsK hns,⟨mb,nsK hb,hbb⟩,(let ⟨mc,h1,h2⟩:=hlim;⟨mc,nsK h1,h2⟩),⟨(let ⟨mc,a1,b1⟩:=hsee.statics;?K4),(let ⟨mc,a1,b1⟩:=hsee.mods;?K4),(let ⟨mc,a1,b1⟩:=hsee.imp;?K4),(let ⟨mg',bm,ob,a1,b1,c1,d1,f1⟩:=hsee.main;⟨mg',bm,ob,nsK a1,b1,base_of c1 (noM c1 d1),d1,f1⟩)⟩⟩
  have e0:Env0 P w K mg (cL s₁.heap H) callerA [] s₁ H:=⟨rfl,hM,fun b o e=>Dm e,Nat.le_of_eq (oR _ _),?Bx,fun b hb=>absurd (show b∈([]:?Ar) from hb) (by simp),hok,.of_eq hg⟩
  refine codeAny_mono ((F _ hKb (nsK hns)).run callerA [] s₁ H ⟨?yK,[]⟩ [.ref a] [.ref a] _ _ hr e0 (hbind s₁ ?AB) (.cons rfl .nil) (hsp H hO hS)) fun r s' h=>?_;cases r with
  |error e=>exact(hCX H e s' h).elim
  |ok fl=>
   cases fl with
   |next=>exact ?LS
   |brk=>exact ?LS
   |cont=>exact ?LS
   |ret u=>
    obtain⟨v,H',os,bare,un,hok',r',q⟩:=h;have q':v=.bl true:=q;subst q';obtain rfl:u=Value.bool true:=r';refine⟨rfl,OldK.of_keep fun b o e=>?_,os,bare⟩;cases q:H b with
    |none=>exact un.keep b o e q (by intro z;exact absurd (show b∈([]:?Ar) from z) (by simp)) (by simp)
    |some u=>
     rcases hO b with z|⟨ob,xs,z⟩
     .rw[q] at z;cases z
     .have z2:=un.frzs b ob _ z;obtain⟨e1,_⟩:=hok b _ z;obtain⟨e2,_⟩:=hok' b _ z2;rw[e] at e1;cases e1;exact e2
 cases hk:K.lookup a with
 |some o=>
  -- the script is one of the module's own objects
  have e:=KX a o hk;rw[ha] at e;cases e;refine core (fun _=>none) (fun _=>?A3) (.inr ⟨_,vs.toArray,_,hk,rfl,rfl,rfl,by rw[yY,lenV];exact hl,by simpa using rv⟩) (fun b u z=>by have z':(none:Option HO)=some u:=z;cases z') (fun b z=>absurd rfl z) fun z=>absurd rfl z
 |none=>
  refine core (fun b=>if b=a then some (.frz {cls:=?S, data:=?G8} (.lst ?CD)) else none) (fun b=>?_) (.inl (.inr ⟨{cls:=?S, data:=?G8},yf rfl⟩)) (fun b u z=>?_) (fun b z=>?_) fun _=>hk
  .by_cases hb:b=a
   .exact .inr ⟨_,_,yf hb⟩
   .exact .inl (ye hb)
  .by_cases hb:b=a
   .have z':=(yf hb).symm.trans z;cases z';subst hb;exact⟨ha,by rw[yd];exact hl,vs,_,rv,ha⟩
   .have z':=(ye hb).symm.trans z;cases z'
  .by_cases hb:b=a
   .exact hb
   .exact absurd (ye hb) z
abbrev KOf {K:?A1}{h:Heap}(_:?EM):?A1:=K
theorem Cv {l:W.OpenLaw}{n k:Nat}{q:?A6}{loose:?A0}{XP:?G->Heap->Prop}{YP:World->Heap->Prop}{d:DefRec}{K:Params->W.Frag}{CX:World->CXT}{sp:World->Sp}{x:Str}
  (hn:l.most=some n) (hn2:n<=sizeLine) (hi:importsNone q=true) (hdf:d.params.defaults=[]) (hr:Room k callerA)
  (hY:∀ (w:World) (h:Heap),YP w h->(?C7).In h)
  (F:∀ (w:World) (mg:Str->Option Value) (fa:Addr) (h:Heap),(?C7).In h->h.Ns mainGlobals mg->mg d.name=some ?EJ->
   ∃ fd:FuncData,(∀ (s:Shared) (u:Value),BindsTo s fd ⟨[u],[]⟩ [(x,u)])/\
    ∀ base:Heap,(?C7).In base->base.Ns mainGlobals mg->FnOk l.prog w ?C7 mg base (CX w) k fa fd [x] (sp w))
  (hsp:∀ (w:World) (H:Hp) (a:Addr) (ns:List Int),ns.length<=n->ED H->SqL ?C7 H a ?CD->sp w [.ref a] H (fun v _=>v=.bl true) fun _ _ _=>?AC)
  (hCX:∀ (w:World) (H:Hp) (s:Shared) (e:Value) (s':Shared),CX w [] H s (fun _ _ _=>?AC) e s'->False) :
  W.WalkO q loose XP YP l.row.toRowW d [] (fun f vs=>?KW):=by
 refine Att.attach_call hn hdf fun w s₀ s₁ mg mb fa o pm cd doc a vs ns G Y ho hd hcd hmg hobj hints hlen hg=>?_;have KX:=hY w _ Y;obtain⟨fd,hb,hF⟩:=F w mg fa _ KX G.T.g hmg;exact rk KX G.T.g G.T.b G.T.builtins G.T.nolimit (G.T.seer hi) hg hobj hints (yU hlen hn2) hr hF hb (fun H hO hS=>hsp w H a ns hlen hO hS) fun H e s'=>hCX w H s₁ e s'
abbrev CX0:CXT:=fun _ _ _ _ _ _=>False
abbrev E0:XK:=fun _ _ _=>False
theorem kM:uf CX0 X E0:=fun _ _ _ _ _ _ _ h=>h.elim
structure Fun (K:?A1)(x qual:Str)(st:Stmt)(f:Addr)(fd:?Cx):Prop where
 ex:∃ (oc:Value) (od:Option Addr) (kV doc pm:Value) (an:Option Addr) (cdv ct:Value) (osl:Array (Option Value)),
  fd=W.fnOf x qual (Ju st) ?Ae ?BS .none kV doc pm an cdv ct/\K.lookup f=some ⟨oc,od,.func fd,osl⟩/\W.codeIn K cdv qual=true
 kp:W.keepIn K ?Al=true
section
variable {P:?A6}{w:?A5}{K:?A1}{mg:?G}{base:Heap}
theorem Fun.ok {x qual:Str}{st:Stmt}{f:Addr}{fd:?Cx}{N ps:?A0}{k:Nat}{sp:Sp}(F:?OX)(S:?BW)(len:∀ vs H Q E,?wZ)
  (hbody:∀ (cdv:Value) (A:Around) (outer:List Env) (s:Shared) (H:Hp) (vs:List V) (Q:VK) (E:XK),Room k (A.deeper (envOfC qual ?BS s.heap.objs.size f cdv))->sp vs H Q E->
   ∃ t,PSs (xi CX0 P w K mg base N qual ?BS f cdv A outer s H E).nox ?Ae t/\t {nx:=fun _ H'=>?Aq,rt:=Q} ?E6 H):FnOk P w K mg base CX0 (k+1) f fd ps sp:=by
 obtain⟨oc,od,kV,doc,pm,an,cdv,ct,osl,rfl,lk,hcd⟩:=F.ex;refine Ho lk hcd S len fun A outer s H vs Q E hr hsp=>?_;obtain⟨t,h,q⟩:=hbody cdv A outer s H vs Q E hr hsp;exact⟨t,h.nox,q⟩
theorem Fun.binds {x qual:Str}{st:Stmt}{f:Addr}{fd:?Cx}{ps:?A0}(F:?OX)
  (h:∀ (kV doc pm:Value) (an:Option Addr) (cdv ct:Value) (us:List Value),us.length=ps.length->bindArgs ?J6 ?jB=pure ?DW):vc K fd ps []:=by
 obtain⟨oc,od,kV,doc,pm,an,cdv,ct,osl,rfl,lk,hcd⟩:=F.ex;exact .all (h kV doc pm an cdv ct)
theorem bu {x qual:Str}{st:Stmt}{f:Addr}{oc:?AK}{od an:?F6}{osl:?Ei}{kV doc pm cdv ct:?AK}(l:K.lookup f=some ⟨oc,od,.func ?J6,osl⟩)
  (c:W.codeIn K cdv qual=true) (k:?vI):Fun K x qual st f ?J6:=⟨⟨oc,od,kV,doc,pm,an,cdv,ct,osl,rfl,l,c⟩,k⟩
end
section
theorem pv (i:Nat)(hN:?zF:=by rfl)(hv:?Em:=by first|exact Or.inl rfl|exact Or.inr (Or.inl rfl)|exact Or.inr (Or.inr rfl))(hd:?L:=by decide)
  (hcd:?jO:=by decide):PE X ?Do (HF i):=xb hN hv hd hcd
end
theorem rO {A B:Prop}(h:B):if false=true then A else B:=by
 rw[ye yV];exact h
theorem BP {A B:Prop}(h:A):if true=true then A else B:=by
 rw[yf rfl];exact h
def Yh (H H':Hp):Prop:=∀ b o,H b=some o->H' b=some o
theorem Yh.refl (H:Hp):Yh H H:=fun _ _ h=>h
theorem Yh.trans(a:Yh H H1)(b:Yh H1 H2):Yh H H2:=fun c o h=>b c o (a c o h)
theorem Yh.free(e:?FN)(h:H' l=Option.none):H l=Option.none:=by
 cases q:H l with
 |none=>rfl
 |some o=>
  rw[e l o q] at h;cases h
theorem Yh.seq {K:?A1}{H H':Hp}{a:Addr}{xs:?AL}(e:?FN)(h:SqL K H a xs):SqL K H' a xs:=by
 rcases h with (h|⟨o,h⟩)|h
 .exact .inl ?Kv
 .exact .inl ?Jp
 .exact .inr h
end L2
set_option maxHeartbeats 4000000
namespace PySem
open Sem (wp)
section
abbrev v8 (h:Heap)(z TI TO:Addr)(f0:?AK)(f1:Bool):Prop:=h.get? z=some {cls:=?qZ, dict:=none,data:=.fields #[f0,.bool f1,.bool false,.ref TI,.ref TO],slots:=#[]}
structure ZipL (h:Heap)(TI i1 i2 t1 t2:Addr)(xs ys:?CN)(k:Nat):Prop where
 pr:IsPair h TI (.ref i1) (.ref i2)
 a1:h.IsListIter i1 t1 k
 a2:h.IsListIter i2 t2 k
 b1:h.IsList t1 xs
 b2:h.IsList t2 ys
theorem ZipL.put {h g:Heap}{z TI TO i1 i2 t1 t2:Addr}{xs ys:?CN}{k:Nat}(c:ZipL h TI i1 i2 t1 t2 xs ys k)(e:∀ b,b=TI∨b=i1∨b=i2∨b=t1∨b=t2->∀ o,h.get? b=some o->g.get? b=some o):ZipL g TI i1 i2 t1 t2 xs ys k:=
 ⟨e _ ?A3 _ c.pr,c.a1.at (e _ (.inr ?A3)),c.a2.at (e _ (.inr (.inr ?A3))),(let ⟨o,q,r⟩:=c.b1;⟨o,e _ (.inr (.inr (.inr ?A3))) _ q,r⟩),(let ⟨o,q,r⟩:=c.b2;⟨o,e _ (.inr (.inr (.inr ?By))) _ q,r⟩)⟩
theorem pY {z TI TO i1 i2 t1 t2:Addr}{k:Nat}{Q:?M}(D:?Jq)(hz:v8 s.heap z TI TO .none false)(c:?JK)(ho:?Oe)(hx:xs[k]?=some x)(hy:ys[k]?=some y)
  (K:∀ g,v8 g z TI TO (rawInt s.heap.objs.size) false->IsPair g TO x y->ZipL g TI i1 i2 t1 t2 xs ys (k+1)->IsPair g s.heap.objs.size x y->g.objs.size=s.heap.objs.size+1->?wM->Q ?Ef {s with heap:=g}) :
  wpAny ?AG A ?wR (fun fin s'=>∃ v,fin=.done (.ret v)/\Q v s') E s:=by
 show wpAny _ _ (field ?BA 2 >>= _) _ _ _;refine ya ?N9;show wpAny _ _ (field ?BA 3 >>= _) _ _ _;refine ya ?NM;refine ya ?NX;show wpAny _ _ (Builtin.SmallTypes.ownedTupleIsFree ?BA >>= _) _ _ _;refine ya ?_;unfold Builtin.SmallTypes.ownedTupleIsFree;refine ya (YR (s:=s) hz rfl (x:=?An) rfl (yj ?_));simp only[if_true];refine ya (wpAny_rule (ya (YR (s:=s) hz rfl (x:=.ref TO) rfl (ya (qC hz (by simp) fun g1 z1 s1=>ya ?_)))));have z1:v8 g1 z TI TO .ellipsis false:=z1;simp only[List.zipIdx_cons,List.zipIdx_nil,zm,List.forIn_nil];refine ya (ya ?I5);show wpAny _ _ ?kM _ _ _;refine ya (qg ?EX ?EU hx fun g2 j1 s2=>yj ?_);have o2:IsPair g2 TO a b:=s2.extBut _ _ D.TOi1 ?OB;refine ya (wpAny_seqItems o2 rfl (ya (wpAny_updateSeq_pair o2 fun g3 o3 s3=>ya (wpAny_letGo (yj ?_)))));have o3:IsPair g3 TO x b:=o3;refine ya (ya ?I5);show wpAny _ _ ?kI _ _ _;refine ya (qg ((?kD).extBut s3.extBut D.TOi2.symm) ((?kG).extBut s3.extBut D.l2TO) hy fun g4 j2 s4=>yj ?_);have o4:IsPair g4 TO x b:=s4.extBut _ _ D.TOi2 o3;refine ya (wpAny_seqItems o4 rfl (ya (wpAny_updateSeq_pair o4 fun g5 o5 s5=>ya (wpAny_letGo (yj (yj ?_))))));have o5:IsPair g5 TO x y:=o5;refine ya (wpAny_seqItems o5 rfl (ya (wpAny_newTuple ?_)));have sz:g5.objs.size=s.heap.objs.size:=by rw[s5.1,s4.1,s3.1,s2.1,s1.1]
 have z5:v8 g5 z TI TO .ellipsis false:=s5.extBut _ _ D.TOz.symm (s4.extBut _ _ D.i2z.symm ?Mc);have k5:∀ b o,b≠z->b≠TO->b≠i1->b≠i2->s.heap.get? b=some o->g5.get? b=some o:=fun b o c1 c2 c3 c4 e=>
  s5.extBut _ _ c2 (s4.extBut _ _ c4 (s3.extBut _ _ c2 ?NI))
 have j1':g5.IsListIter i1 t1 (k+1):=((j1.extBut s3.extBut D.TOi1.symm).extBut s4.extBut D.i12).extBut s5.extBut D.TOi1.symm;have j2':g5.IsListIter i2 t2 (k+1):=j2.extBut s5.extBut D.TOi2.symm;have lz:z<g5.objs.size:=yu z5;show wpAny _ _ (Builtin.SmallTypes.ownedTupleHandOut ?BA (.ref g5.objs.size) >>= _) _ _ _;refine ya ?_;unfold Builtin.SmallTypes.ownedTupleHandOut;have z6:v8 (g5.push {cls:=?zX, data:=.seq #[x,y]}) z TI TO .ellipsis false:=yv _ z5;refine ya (qC z6 (by simp) fun g7 z7 s7=>?_);have z7:v8 g7 z TI TO (rawInt g5.objs.size) false:=z7;refine qC z7 (by simp) fun g8 z8 s8=>?_;have z8:v8 g8 z TI TO (rawInt g5.objs.size) false:=z8;have up:∀ b o,b≠z->g5.get? b=some o->g8.get? b=some o:=fun b o c1 e=>s8.extBut _ _ c1 (s7.extBut _ _ c1 ?At);have nw:IsPair g8 g5.objs.size x y:=s8.extBut _ _ (QN lz) (s7.extBut _ _ (QN lz) ?CT);have sz8:g8.objs.size=g5.objs.size+1:=by rw[s8.1,s7.1,Heap.size_push]
 rw[sz] at z8 nw sz8;refine yj ⟨_,rfl,?_⟩;show Q (.ref g5.objs.size) _;rw[sz];have w5:∀ b o,b≠z->b≠TO->b≠i1->b≠i2->s.heap.get? b=some o->g8.get? b=some o:=fun b o c1 c2 c3 c4 e=>up b o c1 (k5 b o c1 c2 c3 c4 e);exact K g8 z8 (up _ _ D.TOz o5) ⟨w5 _ _ D.TIz D.TITO D.TIi1 D.TIi2 c.pr,j1'.at fun o e=>up _ o D.i1z e,j2'.at fun o e=>up _ o D.i2z e,(let ⟨o,q,r⟩:=c.b1;⟨o,w5 _ _ D.l1z D.l1TO D.l1i1 D.l1i2 q,r⟩),(let ⟨o,q,r⟩:=c.b2;⟨o,w5 _ _ D.l2z D.l2TO D.l2i1 D.l2i2 q,r⟩)⟩ nw sz8 w5
theorem aS(ho:s.heap.get? a=some o)(h:Q (some o) s):wpAny ?AG A (loadIfAlive a) Q E s:=fun Γ p _=>by
 unfold loadIfAlive;rw[Sem.wp_loadIfAlive,ho];exact(Sem.wp_pure ..).mpr h
theorem X5 {z TI TO T:Addr}(hz:?N3)(hT:s.heap.get? T=some oT)(K:∀ g,v8 g z TI TO ?Ir true->Heap.SameBut z s.heap g->Q false {s with heap:=g}) :
  wpAny ?AG A (Builtin.SmallTypes.ownedTupleIsFree ?BA) Q E s:=by
 unfold Builtin.SmallTypes.ownedTupleIsFree;refine ya (YR (s:=s) hz rfl (x:=?Ir) rfl ?_);show wpAny _ _ (loadIfAlive T >>= _) _ _ _;refine ya (aS hT ?_);simp only[Option.isNone_some,Y9,if_false];refine ya (YR (s:=s) hz rfl (x:=.bool f1) rfl ?_);cases f1 with
 |true=>exact yj (K s.heap hz (Heap.SameBut.refl ..))
 |false=>exact ya (qC hz (by simp) fun g z1 s1=>yj (K g z1 s1))
theorem ow {z TI TO i1 i2 t1 t2 T:Addr}{k:Nat}{f1:Bool}{Q:?M}(D:?Jq)(hz:?N3)(c:?JK)(hT:s.heap.get? T=some oT)(hx:xs[k]?=some x)(hy:ys[k]?=some y)
  (K:∀ g,v8 g z TI TO ?Ir true->ZipL g TI i1 i2 t1 t2 xs ys (k+1)->IsPair g s.heap.objs.size x y->g.objs.size=s.heap.objs.size+1->(∀ b o,b≠z->b≠i1->b≠i2->s.heap.get? b=some o->g.get? b=some o)->Q ?Ef {s with heap:=g}) :
  wpAny ?AG A ?wR (fun fin s'=>∃ v,fin=.done (.ret v)/\Q v s') E s:=by
 show wpAny _ _ (field ?BA 2 >>= _) _ _ _;refine ya ?N9;show wpAny _ _ (field ?BA 3 >>= _) _ _ _;refine ya ?NM;refine ya ?NX;show wpAny _ _ (Builtin.SmallTypes.ownedTupleIsFree ?BA >>= _) _ _ _;refine ya ?_;refine X5 hz hT fun g1 z1 s1=>?_;simp only[Y9,if_false,←Array.forIn_toList,zm,List.forIn_nil];refine ya (ya (ya (YA ?_)));show wpAny _ _ ?kM _ _ _;refine ya (qg ?EX ?EU hx fun g2 j1 s2=>yj (yj ?_));refine ya (ya (YA ?_));show wpAny _ _ ?kI _ _ _;refine ya (qg ?kD ?kG hy fun g3 j2 s3=>yj (yj (yj ?_)));refine ya (wpAny_newTuple (yj ⟨_,rfl,?_⟩) (by show(2:Nat)<=sizeLine;decide));have sz:g3.objs.size=s.heap.objs.size:=by rw[s3.1,s2.1,s1.1]
 have k3:∀ b o,b≠z->b≠i1->b≠i2->s.heap.get? b=some o->g3.get? b=some o:=fun b o c1 c3 c4 e=>s3.extBut _ _ c4 ?NI;have z3:v8 g3 z TI TO (rawInt T) true:=s3.extBut _ _ D.i2z.symm ?Nm;have j1':g3.IsListIter i1 t1 (k+1):=j1.extBut s3.extBut D.i12;show Q (.ref g3.objs.size) _;have nw:IsPair (g3.push {cls:=?zX, data:=.seq #[x,y]}) g3.objs.size x y:=yO _ rfl;rw[sz] at nw ⊢;have up:∀ b o,g3.get? b=some o->(g3.push {cls:=?zX, data:=.seq #[x,y]}).get? b=some o:=fun b o e=>yv _ e;exact K _ (up _ _ z3) ⟨up _ _ (k3 _ _ D.TIz D.TIi1 D.TIi2 c.pr),j1'.at fun o e=>up _ o e,j2.at fun o e=>up _ o e,(let ⟨o,q,r⟩:=c.b1;⟨o,up _ _ (k3 _ _ D.l1z D.l1i1 D.l1i2 q),r⟩),(let ⟨o,q,r⟩:=c.b2;⟨o,up _ _ (k3 _ _ D.l2z D.l2i1 D.l2i2 q),r⟩)⟩ nw (by rw[Heap.size_push,sz]) fun b o c1 c2 c3 e=>up _ _ (k3 b o c1 c2 c3 e)
theorem Bv {z TI TO i1 i2 t1 t2:Addr}(hh:?yZ)(D:?Jq)(hz:?H7)(hf:(f0=.none/\f1=false)∨∃ T o,f0=rawInt (T:Nat)/\s.heap.get? T=some o)(c:?JK)(ho:?Oe)(hend:xs[k]?=none∨ys[k]?=none)
  (K:∀ g e,?wM->(∃ o,g.get? e=some o/\o.cls=.type "StopIteration")->E (.ref e) {s with heap:=g}) :
  wpAny ?AG A ?wR Q E s:=by
 show wpAny _ _ (field (.ref z) 2 >>= _) _ _ _;refine ya (YR (s:=s) hz rfl (x:=.bool false) rfl ?_);show wpAny _ _ (field (.ref z) 3 >>= _) _ _ _;refine ya (YR (s:=s) hz rfl (x:=.ref TI) rfl ?_);refine ya (wpAny_seqItems (s:=s) c.pr rfl ?_);show wpAny _ _ (Builtin.SmallTypes.ownedTupleIsFree (.ref z) >>= _) _ _ _;refine ya ?_;rcases hf with ⟨rfl,rfl⟩|⟨T,oT,rfl,hT⟩
 .unfold Builtin.SmallTypes.ownedTupleIsFree;refine ya (YR (s:=s) hz rfl (x:=.none) rfl (yj ?_));simp only[if_true];refine ya (wpAny_rule (ya (YR (s:=s) hz rfl (x:=.ref TO) rfl (ya (qC hz (by simp) fun g1 z1 s1=>ya ?_)))));have z1:v8 g1 z TI TO .ellipsis false:=z1;simp only[List.zipIdx_cons,List.zipIdx_nil,zm,List.forIn_nil];refine ya (ya ?I5);show wpAny _ _ ?kM _ _ _;cases hx:xs[k]? with
  |none=>
   refine ya (wpAny_nextOf_list_end hh ?EX ?EU hx fun g2 e s2 he=>?_);obtain⟨oe,h1,h2⟩:=he;have z2:v8 g2 z TI TO .ellipsis false:=s2 _ _ D.i1z.symm z1;have ne:e≠z:=fun q=>by subst q;rw[z2] at h1;cases h1;simp at h2
   exact qC z2 (by simp) fun g3 _ s3=>K g3 e (fun b o c1 _ c3 _ q=>s3.extBut _ _ c1 (s2 _ _ c3 ?JP)) ⟨oe,s3.extBut _ _ ne h1,h2⟩
  |some x=>
   have hy:ys[k]?=none:=hend.resolve_left (by rw[hx];exact fun q=>nomatch q);refine ya (qg ?EX ?EU hx fun g2 j1 s2=>yj ?_);have o2:IsPair g2 TO a b:=s2.extBut _ _ D.TOi1 ?OB;refine ya (wpAny_seqItems o2 rfl (ya (wpAny_updateSeq_pair o2 fun g3 o3 s3=>ya (wpAny_letGo (yj (ya (ya ?I5)))))));show wpAny _ _ ?kI _ _ _;refine ya (wpAny_nextOf_list_end hh ((?kD).extBut s3.extBut D.TOi2.symm) ((?kG).extBut s3.extBut D.l2TO) hy fun g4 e s4 he=>?_);obtain⟨oe,h1,h2⟩:=he;have z4:v8 g4 z TI TO .ellipsis false:=s4 _ _ D.i2z.symm ?Mc;have ne:e≠z:=fun q=>by subst q;rw[z4] at h1;cases h1;simp at h2
   exact qC z4 (by simp) fun g5 _ s5=>K g5 e (fun b o c1 c2 c3 c4 q=>s5.extBut _ _ c1 (s4 _ _ c4 (s3.extBut _ _ c2 ?OP))) ⟨oe,s5.extBut _ _ ne h1,h2⟩
 .refine X5 hz hT fun g1 z1 s1=>?_;simp only[Y9,if_false,←Array.forIn_toList,zm,List.forIn_nil];refine ya (ya (ya (YA ?_)));show wpAny _ _ ?kM _ _ _;cases hx:xs[k]? with
  |none=>exact ya (wpAny_nextOf_list_end hh ?EX ?EU hx fun g2 e s2 he=>K g2 e (fun b o c1 _ c3 _ q=>s2 _ _ c3 ?JP) he)
  |some x=>
   have hy:ys[k]?=none:=hend.resolve_left (by rw[hx];exact fun q=>nomatch q);refine ya (qg ?EX ?EU hx fun g2 j1 s2=>yj (yj ?_));refine ya (ya (YA ?_));show wpAny _ _ ?kI _ _ _;exact ya (wpAny_nextOf_list_end hh ?kD ?kG hy fun g4 e s4 he=>K g4 e (fun b o c1 c2 c3 c4 q=>s4 _ _ c4 ?OP) he)
theorem kN {TI TO:Addr}(hz:?H7)(h:∀ A' E',wpAny ?AG A' ?wR (fun fin s'=>∃ v,fin=.done (.ret v)/\Q ?CY s') E' s) :
  wpAny ?AG A ?Lu Q E s:=by
 have hT:s.TypeIs (.ref z) "zip" := ?Kh
 unfold pyNext;refine ya (wpAny_attempt (wpAny_callSpecial?_slot (name:=?xC) hT F.slot_zip_next (qA F.slot_zip_next hT F.entry_zip_next (qa (h _ _) (fun fin s' q=>?_) fun _ _ e=>e) ?Oq)));obtain⟨v,rfl,q⟩:=q;exact⟨v,rfl,yj q⟩
theorem Xk {z TI TO:Addr}(hz:?H7)(hh:?yZ)
  (h:∀ A' (Q':Fin->Shared->Prop) (E':Value->Shared->Prop),A'.handled=none->(∀ e s',(∃ o,s'.heap.get? e=some o/\o.cls=.type "StopIteration")->Q none s'->E' (.ref e) s')->wpAny ?AG A' ?wR Q' E' s) :
  wpAny ?AG A (pyNext (.ref z)) Q E s:=by
 have hT:s.TypeIs (.ref z) "zip" := ⟨_,hz,rfl⟩
 unfold pyNext;refine ya (wpAny_attempt (wpAny_callSpecial?_slot (name:=?xC) hT F.slot_zip_next (qA F.slot_zip_next hT F.entry_zip_next (h _ _ _ hh fun e s' ho q=>?_) ?Oq)));obtain⟨o,ho,hc⟩:=ho;exact ya (wpAny_isInstance (T:="StopIteration") (b:=true) ⟨o,ho,hc⟩ isSubtype_stop (yj q))
theorem nY {z TI TO:Addr}(hz:?H7)(h:Q ?BA s):wpAny ?AG A (pyIter ?BA) Q E s:=by
 have hT:s.TypeIs (.ref z) "zip" := ?Kh
 refine wpAny_pyIter_slot hT F.slot_zip_iter (qA F.slot_zip_iter hT F.entry_zip_iter ?_ (F.args_zip_iter_1 _));show wpAny _ _ (ret ?BA) _ _ s;exact yj ⟨_,rfl,"zip", _,hT,F.slot_zip_next.lookup,h⟩
end
namespace ZK
theorem entry_ga:entryFor table "zip.__getattribute__" = some Builtin.«object.__getattribute__»:=
 entryFor_alias (id':="object.__getattribute__") ?qS (by first|rfl|decide +kernel|(unfold String.splitOn;simp +decide [String.splitOnAux])) ?E ?qS
theorem ga_none:typeLookup ?qZ "__getattr__" = pure none:=am_miss_of_fast ?qS
theorem keys_none:typeLookup ?qZ "keys" = pure none:=am_miss_of_fast ?qS
end ZK
theorem xa (z:Addr)(fs:?CN)(u:Tok):Meets (Builtin.«object.__getattribute__» ⟨[.ref z,.str "keys" u],[]⟩) fun A R s=>s.heap.get? z=some {cls:=?qZ, dict:=none,data:=?IY,slots:=#[]}/\raisesAttr ?BA "keys" A R s:=
 .of_wp fun prog w A R s h=>by
  obtain⟨hp,g,d,tk,os⟩:=s;obtain⟨q,hh,h⟩:=h;have hz:Heap.get? (Shared.heap ⟨hp,g,d,tk,os⟩) z=some {cls:=?qZ, dict:=none,data:=?IY,slots:=#[]}:=q;have f1:=ZK.keys_none;have hT:Shared.TypeIs ⟨hp,g,d,tk,os⟩ (.ref z) "zip" := ?Kh
  wp_walk
  exact wpAny_raiseAttrError (show A.in1.handled=none from hh) (fun h' tk' e x=>h h' tk' e x) ?E
section
theorem iX(hh:?yZ)(hz:s.heap.get? z=some {cls:=?qZ, dict:=none,data:=?IY,slots:=#[]})
  (K:∀ g tk,(∀ b o,s.heap.get? b=some o->g.get? b=some o)->Q none {s with heap:=g,toks:=tk}):wpAny ?AG A (getAttr? ?BA "keys") Q E s:=by
 obtain⟨hp,g,d,tk,os⟩:=s;have q:Heap.get? (Shared.heap ⟨hp,g,d,tk+1,os⟩) z=some {cls:=?qZ, dict:=none,data:=?IY,slots:=#[]}:=hz;have hT:Shared.TypeIs ⟨hp,g,d,tk+1,os⟩ (.ref z) "zip" := ⟨_,q,rfl⟩
 have f1:=sub_AttributeError;have f3:=F.slot_zip_getattribute.lookup;have f4:=F.slot_zip_getattribute.bind ?BA;have f5:=ZK.ga_none;have C:∀ {A':Around} {E':Value->Shared->Prop} {Q':Value->Shared->Prop},A'.handled=none->(∀ h' tk' e,Heap.NewAttrErr hp h' e ?BA "keys" -> E' (.ref e) ⟨h',g,d,tk',os⟩)->wpAny ?AG A' (call (.builtin "zip.__getattribute__") [.ref z,.str "keys" tk]) Q' E' ⟨hp,g,d,tk+1,os⟩:=fun h1 h2=>
  call_meets F.slot_zip_getattribute hT ZK.entry_ga (F.args_zip_getattribute_2 _ _) (xa z fs tk) ⟨q,h1,h2⟩
 unfold getAttr? getAttrBy?;refine ya (wpAny_mkText (ya (wpAny_attempt ?_)));unfold getAttrBy;refine YA (ya (wpAny_typeOf hT (ya ?PP)));show wpAny _ _ (if (onTheHeap (Value.type "zip")&&Value.builtin "zip.__getattribute__" == Value.builtin "object.__getattribute__")=true then _ else _) _ _ _;rw[ye (by decide)];unfold getAttrByItsOwn;refine ya (m:=hookBefore _) (yj (ya ?OF));refine ya (m:=bindSpecial _ _) (wpAny_of_eq f4 (C hh fun h' tk' e x=>?_));obtain⟨t',u',he⟩:=x.there;have hE:Shared.TypeIs ⟨h',g,d,tk',os⟩ (.ref e) "AttributeError" := ⟨_,he,rfl⟩
 dsimp only;unfold getattributeRaised;refine ya (wpAny_isInstance hE f1 ?_);rw[yf rfl];refine ya (m:=hookBehind _ _) (wpAny_of_eq f5 ?_);unfold hookOrError;dsimp only
 wp_walk
 exact K _ _ x.keeps
end
namespace ZK
theorem entry_loop:entryFor table "dict.update.loop" = some Builtin.«dict.update.loop»:=entryFor_of_tree ?qS
theorem plain_loop:plainId "dict.update.loop" = true:=by decide +kernel
end ZK
section
theorem ly(h:IsPair s.heap T x y)(q:Q [x,y] s):wpAny ?AG A (Builtin.Dict.pairItems (.ref T)) Q E s:=by
 have hT:s.TypeIs (.ref T) "tuple" := ⟨_,h,rfl⟩
 unfold Builtin.Dict.pairItems;refine ya ?P1;rw[yf (by decide)];obtain⟨hp,g,d,tk,os⟩:=s
 wp_walk
 exact q
def vH (h:Heap)(z TI TO i1 i2 l1 l2:Addr)(xs ys:?CN)(k:Nat):Prop:=
 ∃ f0 f1,v8 h z TI TO f0 f1/\((f0=.none/\f1=false)∨∃ (T:Addr) (o:Obj),f0=rawInt T/\h.get? T=some o)/\ZipL h TI i1 i2 l1 l2 xs ys k/\∃ a b,IsPair h TO a b
theorem vH.next {z TI TO i1 i2 l1 l2:Addr}(D:?Fj)(S:?Ms)(hx:xs[k]?=some x)(hy:ys[k]?=some y)
  (K:∀ g,vH g z TI TO i1 i2 l1 l2 xs ys (k+1)->IsPair g s.heap.objs.size x y->g.objs.size=s.heap.objs.size+1->?wM->Q (some ?Ef) {s with heap:=g}) :
  wpAny ?AG A ?Lu Q E s:=by
 obtain⟨f0,f1,hz,hf,c,a,b,ho⟩:=S;rcases hf with ⟨rfl,rfl⟩|⟨T,oT,rfl,hT⟩
 .exact kN hz fun A' E'=>pY D hz c ho hx hy fun g z1 o1 c1 n1 sz fr=>K g ⟨_,_,z1,.inr ⟨_,_,rfl,n1⟩,c1,_,_,o1⟩ n1 sz fr
 .refine kN hz fun A' E'=>ow D hz c hT hx hy fun g z1 c1 n1 sz fr=>K g ⟨_,_,z1,.inr ⟨T,?_⟩,c1,a,b,fr _ _ D.TOz D.TOi1 D.TOi2 ho⟩ n1 sz fun b o c1 _ c3 c4 e=>fr b o c1 c3 c4 e;by_cases e1:T=z
  .subst e1;exact⟨_,rfl,z1⟩
  .by_cases e2:T=i1
   .obtain⟨o,h1,_⟩:=c1.a1;exact⟨o,rfl,e2▸h1⟩
   .by_cases e3:T=i2
    .obtain⟨o,h1,_⟩:=c1.a2;exact⟨o,rfl,e3▸h1⟩
    .exact⟨oT,rfl,fr _ _ e1 e2 e3 hT⟩
theorem vH.fin {z TI TO i1 i2 l1 l2:Addr}(hh:?yZ)(D:?Fj)(S:?Ms)(hend:xs[k]?=none∨ys[k]?=none)
  (K:∀ g,?wM->Q none {s with heap:=g}) :
  wpAny ?AG A ?Lu Q E s:=by
 obtain⟨f0,f1,hz,hf,c,a,b,ho⟩:=S;exact Xk hz hh fun A' Q' E' h1 h2=>Bv h1 D hz hf c ho hend fun g e fr he=>h2 e _ he (K g fr)
theorem vH.put {d z TI TO i1 i2 l1 l2:Addr}(S:vH h z TI TO i1 i2 l1 l2 xs ys k)(hd:d∉[z,TI,TO,i1,i2,l1,l2])(e:∀ b o,b≠d->h.get? b=some o->g.get? b=some o)(hg:∃ o,g.get? d=some o):vH g z TI TO i1 i2 l1 l2 xs ys k:=by
 obtain⟨f0,f1,hz,hf,c,a,b,ho⟩:=S;simp only[yG,Y8,or_false,not_or] at hd;obtain⟨d1,d2,d3,d4,d5,d6,d7⟩:=hd;refine⟨f0,f1,e _ _ (Ne.symm d1) hz,hf.imp id ?_,c.put (z:=z) (TO:=TO) fun b hb o=>e b o ?_,a,b,e _ _ (Ne.symm d3) ho⟩
 .rintro⟨T,o,h1,h2⟩;by_cases hT:T=d
  .subst hT;obtain⟨o',h3⟩:=hg;exact⟨T,o',h1,h3⟩
  .exact⟨T,o,h1,e _ _ hT h2⟩
 .rcases hb with rfl|rfl|rfl|rfl|rfl
  .exact Ne.symm d2
  .exact Ne.symm d4
  .exact Ne.symm d5
  .exact Ne.symm d6
  .exact Ne.symm d7
def eG [DecidableEq K]:List (K×Value)->List K->List Value->List (K×Value)
 |kvs,k::ks,y::ys=>eG (stored kvs k y) ks ys
 |kvs,_,_=>kvs
theorem gB {K:Type}[DecidableEq K]{kvs:List (K×Value)}{k:K}:(stored kvs k v).length<=kvs.length+1:=by
 unfold stored;split
 .simp
 .simp
theorem XS {K:Type}[DecidableEq K]{knd:KeyKind prog w K}{d z TI TO i1 i2 l1 l2:Addr}{xs ys:?CN}{h0:Heap}{R:?xI}(D:?Fj)(hd:d∉[z,TI,TO,i1,i2,l1,l2])(hh:?yZ)(hz:xs.size=ys.size):∀ (ks:List K) (i:Nat) (kvs:List (K×Value)) (s:Shared),
  ks.length+i=xs.size->(∀ j k,ks[j]?=some k->∃ x,xs[i+j]?=some x/\knd.is k x=true)->kvs.length+ks.length<=sizeLine->s.heap.DictOf knd d kvs->vH s.heap z TI TO i1 i2 l1 l2 xs ys i->(∀ b o,b≠d->b≠z->b≠TO->b≠i1->b≠i2->h0.get? b=some o->s.heap.get? b=some o)->
  (∀ g tk,g.DictOf knd d (eG kvs ks (ys.toList.drop i))->(∀ b o,b≠d->b≠z->b≠TO->b≠i1->b≠i2->h0.get? b=some o->g.get? b=some o)->R (.ok (.ret .none)) {s with heap:=g,toks:=tk})->
  codeAny ?AG A (.builtin "dict.update.loop" ⟨[.ref d,.ref z,rawInt i,.none],[]⟩) R s
 |[],i,kvs,s,hl,hk,hs,dd,S,fr,fin=>by
  refine ?N2;rw[Around.under_plainId ZK.plain_loop _];have hi:i=xs.size:=by simpa using hl
  refine ya (vH.fin (A:=A.in1) hh D S (.inl (Array.getElem?_eq_none_iff.mpr ?A)) fun g fr2=>?_);refine ya (m:=Builtin.Dict.addKeywords d []) (yj (yj ?_));have e1:d≠z:=fun e=>hd (by simp[e]);have e2:d≠TO:=fun e=>hd (by simp[e]);have e3:d≠i1:=fun e=>hd (by simp[e]);have e4:d≠i2:=fun e=>hd (by simp[e]);exact fin g _ (dd.at fun o e=>fr2 d o e1 e2 e3 e4 e) fun b o a1 a2 a3 a4 a5 e=>fr2 b o a2 a3 a4 a5 ?O9
 |k::ks,i,kvs,s,hl,hk,hs,dd,S,fr,fin=>by
  refine ?N2;rw[Around.under_plainId ZK.plain_loop _];obtain⟨x,hx,kx⟩:=hk 0 k rfl;rw[Nat.add_zero] at hx;have hi:i<xs.size:=by rw[yw] at hl;lia
  have hy:ys[i]?=some ys[i]:=Array.getElem?_eq_getElem ?A;have e1:d≠z:=fun e=>hd (by simp[e]);have e2:d≠TO:=fun e=>hd (by simp[e]);have e3:d≠i1:=fun e=>hd (by simp[e]);have e4:d≠i2:=fun e=>hd (by simp[e]);refine ya (vH.next (A:=A.in1) D S hx hy fun g S1 n1 sz fr1=>?_);refine ya (YA (ya (wpAny_tryCatch (ly n1 ?_))));refine YA (wpAny_dictSet_pairs kx (dd.at fun o e=>fr1 d o e1 e2 e3 e4 e) (fun g2 d2 s2=>?_) (by rw[yw] at hs;lia));refine yj ⟨?NE,?_⟩;have ei:rawInt ((i:Int)+1)=rawInt ((i+1:Nat):Int):=by simp
  show codeAny _ _ (.builtin "dict.update.loop" ⟨[.ref d,.ref z,rawInt ((i:Int)+1),.none],[]⟩) _ _;rw[ei];refine XS D hd hh hz ks (i+1) (stored kvs k ys[i]) _ (by rw[yw] at hl;lia) (fun j k' e=>?_) ?_ d2 (S1.put hd (fun b o hb e=>s2.extBut _ _ hb e) (let ⟨o,_,_,e,_⟩:=d2;?GV)) (fun b o a1 a2 a3 a4 a5 e=>s2.extBut _ _ a1 (fr1 b o a2 a3 a4 a5 ?O9)) fun g3 tk3 d3 f3=>?_
  .obtain⟨x',h1,h2⟩:=hk (j+1) k' (by simpa using e);exact⟨x',by rw[show i+1+j=i+(j+1) by lia];exact h1,h2⟩
  .have:=gB (kvs:=kvs) (k:=k) (v:=ys[i]);rw[yw] at hs;lia
  .refine fin g3 tk3 ?_ f3;rw[List.drop_eq_getElem_cons (by rw[Array.length_toList];lia)];exact d3
end
section
theorem au [DecidableEq K]:∀ {ks:List K} {us:List Value} {kvs:List (K×Value)},ks.length=us.length->(kvs.map ?C++ks).Nodup->eG kvs ks us=kvs++ks.zip us
 |[],us,kvs,h,_=>by simp[eG]
 |k::ks,[],kvs,h,_=>by simp at h
 |k::ks,u::us,kvs,h,n=>by
  have hk:(kvs.any fun kv=>?yU)=false:=by
   rw[List.any_eq_false];intro p hp;have:p.1≠k:=fun e=>by
    have:=(Ye.mp n).2.2 p.1 ?GF k (by simp);exact this e
   simpa using this
  have e:stored kvs k u=kvs++[(k,u)]:=by unfold stored;rw[ye (by rw[hk];exact yV)]
  rw[eG,e,au (by simpa using h) (by simpa using n)];simp
theorem bt {K:Type}[DecidableEq K]{knd:KeyKind prog w K}{z TI TO i1 i2 l1 l2:Addr}{xs ys:?CN}{ks:List K}{Q:?M}(D:?Fj)(hh:?yZ)(hz:xs.size=ys.size)(hl:ks.length=xs.size)(hn:ks.Nodup)(hs:ks.length<=sizeLine)(hk:∀ (j:Nat) (k:K),ks[j]?=some k->∃ x,xs[j]?=some x/\knd.is k x=true)
  (S:vH s.heap z TI TO i1 i2 l1 l2 xs ys 0)
  (fin:∀ g tk,g.DictOf knd s.heap.objs.size (ks.zip ys.toList)->?wM->Q (.ref s.heap.objs.size) {s with heap:=g,toks:=tk}) :
  wpAny ?AG A (call (.type "dict") [.ref z]) Q E s:=by
 have hzz:z<s.heap.objs.size:=by obtain⟨_,_,h,_⟩:=S;exact yu h
 have hd:s.heap.objs.size∉[z,TI,TO,i1,i2,l1,l2]:=by
  obtain⟨_,_,h,_,c,_,_,ho⟩:=S;have a1:=yu h;have a2:=yu c.pr;have a3:=yu ho;obtain⟨_,b1,_⟩:=c.a1;obtain⟨_,b2,_⟩:=c.a2;obtain⟨_,b3,_⟩:=c.b1;obtain⟨_,b4,_⟩:=c.b2;have a4:=yu b1;have a5:=yu b2;have a6:=yu b3;have a7:=yu b4;intro e;simp only[yG,Y8,or_false] at e;rcases e with e|e|e|e|e|e|e
  all_goals first|exact QN a1 e|exact QN a2 e|exact QN a3 e|exact QN a4 e|exact QN a5 e|exact QN a6 e|exact QN a7 e
 refine callType_codes (Q₁:=fun obj s₁=>obj=.ref s.heap.objs.size/\s₁={s with heap:=?uO}) F.kt_called_dict (F.kt_typeCall_dict_1 _) F.entry_dict_init (kt_code_dict_new _ ⟨rfl,rfl⟩) fun obj s₁ h₁=>?_;obtain⟨rfl,rfl⟩:=h₁;have hT:Shared.TypeIs {s with heap:=?uO} (.ref s.heap.objs.size) "dict" := ⟨_,yO _ rfl,rfl⟩
 refine⟨hT,F.args_dict_init_2 _ _,?_⟩;have S1:vH (s.heap.push {cls:=.type "dict", data:=.dict #[]}) z TI TO i1 i2 l1 l2 xs ys 0:=S.put hd (fun b o _ e=>?At) ⟨_,yO _ rfl⟩;obtain⟨f0,f1,hzz1,_⟩:=id S1;have tz:Shared.TypeIs {s with heap:=?uO} (.ref z) "zip" := ⟨_,hzz1,rfl⟩
 unfold Builtin.«dict.__init__»;refine ya (m:=Builtin.Dict.selfAndRest "__init__" _) ?_;unfold Builtin.Dict.selfAndRest;refine ya (m:=Builtin.Dict.notOrdered "__init__" _) ?_;unfold Builtin.Dict.notOrdered;rw[yf (by decide +kernel)];refine ya ?P1;rw[ye (by decide)];refine yj ?_;refine ya (m:=Builtin.Dict.addrOf (.ref s.heap.objs.size)) (yj (yj ?_));show wpAny _ _ (Builtin.Dict.updateFrom "dict.__init__" s.heap.objs.size (.ref z) [] .none) _ _ _;unfold Builtin.Dict.updateFrom;refine ya (wpAny_typeOf tz ?_);rw[yf (by decide)];refine ya (iX (show A.in1.in1.handled=none from hh) hzz1 fun g tk kp=>?_);rw[yf (show(none:Option Value).isNone=true from rfl)];have S2:vH g z TI TO i1 i2 l1 l2 xs ys 0:=S1.put hd (fun b o _ e=>kp b o e) ⟨_,kp _ _ (yO _ rfl)⟩;obtain⟨f0',f1',hzz2,_⟩:=id S2;refine ya (wpAny_rule (ya (nY hzz2 (yj ⟨?NE,?_⟩))));have d0:Heap.DictOf knd g s.heap.objs.size []:=Heap.DictOf.at (Heap.DictOf.new ..) fun o e=>kp _ o e;refine XS (A:=A.in1) (knd:=knd) (h0:=s.heap) D hd hh hz ks 0 [] _ (by simpa using hl) (fun j k e=>by rw[qp];exact hk j k e) (by simpa using hs) d0 S2 (fun b o _ _ _ _ _ e=>kp _ _ ?At) fun g3 tk3 d3 f3=>?_;refine⟨rfl,fin g3 tk3 ?_ fun b o a1 a2 a3 a4 e=>f3 b o ?J1 a1 a2 a3 a4 e⟩;rw[List.drop_zero,au (by rw[hl,hz,Array.length_toList]) (by simpa using hn),Jl] at d3;exact d3
end
end PySem
namespace L2
open PySem PySem.Spec PyProof.Rows
section
theorem qQ.there (x:?Kj):∃ ob,h.get? a=some ob:=by
 cases o with
 |lst xs=>obtain⟨_,_,_,_,e⟩:=x;exact ?E4
 |tup xs=>obtain⟨_,_,_,ob,e,_⟩:=x;exact⟨ob,e⟩
 |dK kvs=>obtain⟨_,_,_,_,o,_,_,e,_⟩:=x;exact ?GV
 |dT kvs=>obtain⟨_,_,_,_,o,_,_,e,_⟩:=x;exact ?GV
 |set S n=>obtain⟨o,_,_,_,e,_⟩:=x;exact ?GV
 |ins C dx fs=>obtain⟨_,_,_,e,_⟩:=x;exact ?E4
 |own y=>obtain⟨u,e⟩:=x;exact⟨u,e⟩
 |xd fs=>obtain⟨_,⟨u,_,_,e,_⟩,_⟩:=x;exact⟨u,e⟩
 |rng lo hi=>obtain⟨_,_,_,e⟩:=x;exact ?E4
 |frz ob u=>obtain⟨e,_⟩:=x;exact ?E4
 |tbl ps=>
  have e:h.get? a=some _:=x;exact ?E4
 |met f y=>
  have e:h.get? a=some _:=x;exact ?E4
 |ext φ=>obtain⟨_,⟨u,e⟩,_⟩:=x;exact⟨u,e⟩
end
section
end
section
end
section
end
section
end
section
end
def GI (a:Addr)(cls:?AK):HO:=.ext fun h=>∃ o vs,h.get? a=some o/\o.cls=cls/\o.data=.fields vs
section
variable {X:Cx}{pins:?Q}{σ:St}{H:Hp}{s:?AI}
end
section
variable {X:Cx}{pins:?Q}{σ:St}{H:Hp}{s:?AI}
end
section
variable {X:Cx}
end
open PySem.Calls PySem.W PySem.Builtin PySem.Builtin.ObjectAttr PySem.Builtin.Getset_descriptor
structure XcK (K:?A1)(C:Addr):Prop where
 ga:W.findIn K ?AF "__getattribute__" = some (some (.builtin "BaseException.__getattribute__"))
 gt:W.findIn K ?AF "__getattr__" = some none
 ca:W.findIn K ?AF "__class__" = some (some ?zN)
 gs:W.specialIn K ?zN "__get__" = some (some ?wS)
 tk:W.takesIn K ?zN=some true
 mo:W.mroIn K C (.type "object")=some true
 mb:W.mroIn K C (.type "BaseException")=some true
 cl:∃ o,K.lookup C=some o/\∃ cd,o.data=.cls cd
section
variable {prog:?A6}{w:?A5}{A:?Ad}{E:?M}{K:?A1}{x C:Addr}{h:Heap}{g:?Kt}{d:Drawn}{t:Nat}{os:?DZ}
theorem Co {M:Model}(X:?EM)(k:?Go):W.Looks M h (Builtin.ObjectAttr.find ?Bg ?AF "__class__") (.bind ?wS ?zN):=by
 have L1:=W.looks_findIn (M:=M) X k.ca;have L2:=W.looks_specialIn (M:=M) X k.gs;have L3:=W.looks_takesIn (M:=M) X k.tk;have L4:Looks M h (dataDescriptor? (some (.builtin "object.__class__")) (some (.builtin "getset_descriptor.__get__"))) (some (.builtin "getset_descriptor.__get__", ?zN)):=L3.andThen .now;exact L1.andThen (L2.andThen (L4.andThen (Looks.tag .now)))
theorem F9 {R:?xI}{tp:?AK}(X:?EM)(L0:∀ M:Model,W.Looks M h (typeOf ?Bg) ?AF)(k:?Go)(q:R (.ok (.ret ?AF)) ?KI) :
  codeAny ?AG A (.call ?wS ⟨[.builtin "object.__class__", .ref x,tp],[]⟩) R ?KI:=by
 have T0:=L0 ?AG;have T1:=W.looks_mroIn (M:=?AG) X k.mo;refine codeAny_call_builtin W.KF.slot_gs.plain W.KF.entry_gs ?_;refine W.KF.slot_gs.check _ _ _ _ _ _ _ _ W.KF.type_class (W.KF.args_gs _ _ _) ?_;unfold «getset_descriptor.__get__» descrGet;rw[dga_obj];refine ya (yj ?_);unfold descrGetter descrCheckInstance;unfold descrNameAndClass isInstance;simp only[KF.owner_class]
 repeat lk
 refine⟨Code.quiet_builtin _ ?E,?_⟩;refine codeAny_builtin KF.entry_class ?_;unfold «object.__class__» shownTypeOf
 repeat lk
 exact q
theorem tS {Q:Option Value->Shared->Prop}(X:?EM)(L0:∀ M:Model,Looks M h (typeOf ?Bg) ?AF)(k:?Go)(q:Q (some ?AF) ⟨h,g,d,t+1,os⟩) :
  wpAny ?AG A (getAttr? ?Bg "__class__") Q E ?KI:=by
 have T0:=L0 ?AG;have T1:=looks_findIn (M:=?AG) X k.ga;have T2:=looks_findIn (M:=?AG) X k.gt;have T3:=Co (x:=x) (M:=?AG) X k;have T4:=looks_mroIn (M:=?AG) X k.mb;have f3:=F.attr_ValueError.ga.bind ?Bg;unfold getAttr? getAttrBy? getAttrBy;refine ya (wpAny_mkText (ya (wpAny_attempt (YA (ya (T0.at (ya (T1.at ?_))))))));show wpAny _ _ (getAttrByItsOwn _ _ _ _ _ _) _ _ _;unfold getAttrByItsOwn hookBefore;refine ya (T2.at ?_);refine ya ?OF;show wpAny _ _ (boundAndCalled _ _ _) _ _ _;unfold boundAndCalled;refine ya ?PP;refine wpAny_call (codeAny_call_builtin F.attr_ValueError.ga.plain F.entry_bexc_ga ?_);have hk:builtinKind "BaseException.__getattribute__" = some .slot:=by decide +kernel
 have hsp:splitId "BaseException.__getattribute__" = some ("BaseException", "__getattribute__"):=by decide +kernel
 have ha:=F.args_bexc_ga ?Bg (.str "__class__" t);simp only[checkBuiltinCall,hk,hsp];refine ya ?_;unfold isInstance
 repeat (any_goals (first|assumption|lk|wp_step))
 refine wpAny_run (F9 X L0 k ?_)
 repeat (any_goals (first|assumption|lk|wp_step))
end
theorem DI {K:Frag}{x C:Addr}(k:?Go):KitX K ?Bg ?AF (fun h=>∃ o vs,h.get? x=some o/\o.cls=.ref C/\o.data=.fields vs) where
 ty:=fun M h _ ⟨o,_,e,c,_⟩=>c▸(Looks.ld e).andThen .now
 it:=fun M h X _=>by
  obtain⟨o,ho,cd,hd⟩:=k.cl;obtain⟨oc,od,dt,sl⟩:=o;dsimp only at hd;subst hd;intro A' Q' E' s' k q;unfold isType loadHead;exact ya (wpAny_loadPart (k _ _ (X _ _ ho)) (yj q))
 ne:=fun h tp dd its n sl X htp=>by
  obtain⟨o,ho,cd,hd⟩:=k.cl;refine Q1.mpr fun q=>?_;have e:C=tp:=Value.ref.inj (beq_iff_eq.mp q);subst e;have z:=(X _ _ ho).symm.trans htp;cases z;cases hd
 ca:=fun {prog w A E Q s} X p q=>by
  obtain⟨h,g,d,t,os⟩:=s;obtain⟨o,vs,e,c,_⟩:=p;exact tS X (fun M=>c▸(Looks.ld e).andThen .now) k q
def cV:V->Value
 |.ref a=>.ref a
 |.ty n=>.type n
 |_=>.none
inductive IsIn (K:Frag)(H:Hp):V->V->Bool->Prop where
 |val {x c:V} {t:?AK} {b:Bool} (ty:TyOf K H x t) (e:kitOne K t (cV c)=some b) (hc:cV c≠.none):IsIn K H x c b
 |exc {a C:Addr} {c:V} {b:Bool} (ex:H a=some (GI a ?AF)) (k:?Go) (e:kitOne K ?AF (cV c)=some b) (hc:cV c≠.none):IsIn K H ?AB c b
theorem AK(r:YV c u)(h:cV c≠.none):u=cV c:=by
 cases c <;> first|exact r|exact absurd rfl h
section
variable {X:Cx}
theorem pe:V5 X (.builtin "isinstance") (fun xs H Q=>∃ x c b,xs=[x,c]/\IsIn X.K H x c b/\Q (.bl b) H):=by
 intro pins s σ H xs us Q I r h;obtain⟨x,c,b,rfl,hi,q⟩:=h;obtain⟨u,v,rfl,r1,r2⟩:=HE r;cases hi with
 |val ty e hc=>
  rw[AK r2 hc];exact oZ I r1 ty e fun tk=>?Nz
 |@exc a C _ _ ex k e hc=>
  rw[AK r2 hc];cases (show u=Value.ref a from r1);obtain⟨p,_⟩:=(show qQ X.prog X.w H s.heap a (GI a ?AF) from I.hok a _ ex)
  exact kia_one (DI k) I.kIn p e ?zH fun tk=>?Nz
theorem ng:OpR X (binaryOp .Mult) (rI IntMulOk fun i j=>.int (i*j)):=opI fun _ _ _ _ _ _ _ hc q=>mul_int q hc
end
structure Pyl (X:Cx):Prop where
 tree:X.prog.given.tree=none
 fr:∃ env l,X.stack=env::l/\env.scope.isGenerator=false/\env.scope.isCoroutine=false/\env.builtins=builtinsNs/\env.globals=mainGlobals
 dp:X.A.depth+Builtin.pylongFrames<recursionLimit
theorem Pyl.room(p:Pyl X)(I:?A8):PylongRoom ?AD X.A s:=by
 obtain⟨env,l,h1,h2,h3,h4,h5⟩:=p.fr;exact PylongRoom.of I.nolimit p.dp (SeerAt.of (I.ok.mod.seer.keeps I.bk) p.tree (I.ok.frames.trans (congrArg some h1)) h2 h3 h4 h5)
section
theorem sS (p:Pyl X):OpR X ?P7 (rI (fun _ j=>j≠0) fun i j=>.int (i.fdiv j)):=by
 intro pins s σ H x y v u Q I rx ry h;obtain⟨i,j,rfl,rfl,hc,q⟩:=h;obtain⟨t,rfl⟩:=rx;obtain⟨t',rfl⟩:=ry;exact floordiv_int hc ⟨.int (i.fdiv j),H,?Ax,?DM,q⟩ (Or.inr (p.room I))
end
def Yt (K:?A1)(mg:?G)(x:Str)(st:Stmt)(ps:?A0):Prop:=∃ f fd,Fun K x x st f fd/\mg x=some ?Al/\vc K fd ps []
def OkF (P:?A6)(w:?A5)(K:?A1)(mg:?G)(base:Heap)(CX:CXT)(k:Nat)(x:Str)(ps:?A0)(sp:Sp):Prop:=
 ∃ f fd,FnOk P w K mg base CX k f fd ps sp/\mg x=some ?Al/\W.keepIn K ?Al=true/\vc K fd ps []
theorem YY {K:?A1}{h:Heap}{mg:?G}(X:?EM)(G:?KO){x:Str}{st:Stmt}(ps:?A0){f:Addr}{oc:?AK}{od an:?F6}{osl:?Ei}{kV doc pm cdv ct:?AK}
  (a:W.nsIn K mainGlobals x=some ?DG) (l:K.lookup f=some ?Np)
  (c:W.codeIn K cdv x=true) (k:?vI)
  (hb:∀ (kV doc pm:Value) (an:Option Addr) (cdv ct:Value) (us:List Value),us.length=ps.length->bindArgs ?J7 ?jB=pure ?DW):?F7:=
 have F:=bu (st:=st) l c k
 ⟨f,_,F,W.mg_of X G a,?M0⟩
section
variable {P:?A6}{w:?A5}{K:?A1}{mg:?G}{base:Heap}
theorem Yt.ok {x:Str}{st:Stmt}{N ps:?A0}{k:Nat}{sp:Sp}(d:?F7)(S:?BW)(len:∀ vs H Q E,?wZ)
  (hbody:∀ (f:Addr) (cdv:Value) (A:Around) (outer:List Env) (s:Shared) (H:Hp) (vs:List V) (Q:VK) (E:XK),Room k ?Fi->sp vs H Q E->
   ∃ t,PSs (?MY).nox ?Ae t/\t {nx:=fun _ H'=>?Aq,rt:=Q} ?E6 H):OkF P w K mg base CX0 (k+1) x ps sp:=by
 obtain⟨f,fd,F,m,b⟩:=d;exact⟨f,fd,F.ok S len fun cdv A outer s H vs Q E hr h=>?JD,m,F.kp,b⟩
end
section
theorem wg (o:OkF X.prog X.w X.K X.mg X.base CX0 k x ps sp)(hr:?Am)(hg:?Ai)(ha:?qP)(hdb:?L:=by decide)
  (he:?T:=by rfl) (hpl:?zA:=by rfl):PE X ?yP (D7 sp [] E0 t):=by
 obtain⟨f,fd,F,m,kp,b⟩:=o;exact Dq F hr hg m kp b .nil kM ha hdb he hpl
end
theorem xR {CX:CXT}{P:?A6}{w:?A5}{K:?A1}{mg:?G}{base:Heap}{N:?A0}{qual:Str}{scope:?BR}{f:Addr}{cd:?AK}{A:?Ad}{outer:?CU}{s:?AI}{H:Hp}{E:XK}{k:Nat}
  (ht:?qQ) (hg:scope.isGenerator=false) (hc:scope.isCoroutine=false) (hr:Room k (A.deeper ?EW)) (hk:32<=k) :
  Pyl ?JG:=
 ⟨ht,⟨_,_,rfl,hg,hc,rfl,rfl⟩,by have:=hr.dp;show(A.deeper _).depth+100<_;lia⟩
theorem Pyl.nox(p:Pyl X):Pyl X.nox:=⟨p.tree,p.fr,p.dp⟩
theorem FJ {P:?A6}{w:?A5}{K:?A1}{h:Heap}{mg:?G}{n:Nat}{sp:Sp}(X:?EM)(G:?KO){x y:Str}{st:Stmt}{fa f:Addr}{oc:?AK}{od an:?F6}{osl:?Ei}{kV doc pm cdv ct:?AK}(hfa:mg x=some ?EJ)
  (a:W.nsIn K mainGlobals x=some ?DG) (l:K.lookup f=some ?Np)
  (c:W.codeIn K cdv x=true) (k:?vI)
  (hb:∀ v:Value,bindArgs ?J7 ⟨[v],[]⟩=pure [(y,v)])
  (ok:∀ (fd:FuncData) (base:Heap),K.In base->base.Ns mainGlobals mg->Fun K x x st fa fd->FnOk P w K mg base CX0 n fa fd [y] sp) :
  ∃ fd:FuncData,(∀ (s:Shared) (u:Value),BindsTo s fd ⟨[u],[]⟩ [(y,u)])/\∀ base:Heap,K.In base->base.Ns mainGlobals mg->FnOk P w K mg base CX0 n fa fd [y] sp:=by
 have e:=hfa.symm.trans (W.mg_of X G a);cases e;exact⟨_,fun s u=>.of_eq (hb u),fun base kb nb=>ok _ base kb nb (bu (st:=st) l c k)⟩
def JE:List (Str×NameKind)->List (Str×Addr)->List (Str×Addr)->List (Str×Addr)
 |[],_,acc=>acc
 | (n,k)::r,cells,acc=>if k==.free then JE r cells ((n,(cells.lookup n).getD 0)::acc) else JE r cells acc
theorem VF:∀ {names:List (Str×NameKind)} {acc:List (Str×Addr)},(∀ y∈names,y.2=.free->(cells.lookup y.1).isSome=true)->(?K6).lookup x=some c->
  acc.lookup x=some c∨cells.lookup x=some c
 |[],_,_,h=>.inl h
 | (n,k)::r,acc,hf,h=>by
  have hr:∀ y∈r,y.2=.free->(cells.lookup y.1).isSome=true:=fun y hy=>hf y ?FQ;unfold JE at h;by_cases hk:(k==NameKind.free)=true
  .rw[yf hk] at h;rcases VF hr h with q|q
   .by_cases hx:(x==n)=true
    .rw[Yy,hx] at q;have e:x=n:=beq_iff_eq.mp hx;subst e;have z:=hf (x,k) (by simp) (beq_iff_eq.mp hk);obtain⟨a,ha⟩:=JJ.mp z;have ha':cells.lookup x=some a:=ha;rw[ha'] at q
     right
     rw[ha'];exact q
    .rw[Yy,Q1.mpr hx] at q;exact ?Bk
   .exact .inr q
  .rw[ye hk] at h;exact VF hr h
theorem ud:∀ {names:List (Str×NameKind)} {acc:List (Str×Addr)},(∃ c,acc.lookup x=some c)->∃ c,(?K6).lookup x=some c
 |[],_,h=>h
 | (n,k)::r,acc,⟨c,h⟩=>by
  unfold JE;by_cases hk:(k==NameKind.free)=true
  .rw[yf hk];refine ud ?_;by_cases hx:(x==n)=true
   .exact⟨_,by rw[Yy,hx]⟩
   .exact⟨c,by rw[Yy,Q1.mpr hx];exact h⟩
  .rw[ye hk];exact ud ⟨c,h⟩
theorem VC:∀ {names:List (Str×NameKind)} {acc:List (Str×Addr)},(x,NameKind.free)∈names->∃ c,(?K6).lookup x=some c
 | (n,k)::r,acc,h=>by
  unfold JE;rcases yG.mp h with e|h
  .cases e;rw[yf (by decide)];exact ud ⟨_,by rw[Yy,beq_self_eq_true]⟩
  .by_cases hk:(k==NameKind.free)=true
   .rw[yf hk];exact VC h
   .rw[ye hk];exact VC h
theorem VI:∀ (names:List (Str×NameKind)) (acc:List (Str×Addr)),(∀ y∈names,y.2=.free->(env.cells.lookup y.1).isSome=true)->
  (forIn names acc fun (y:Str×NameKind) (r:List (Str×Addr))=>if (y.2==NameKind.free)=true then (do let a ←cellOf env y.1;pure (ForInStep.yield ((y.1,a)::r))) else (pure ?Hj:Sem (ForInStep (List (Str×Addr)))))=pure (JE names env.cells acc)
 |[],acc,_=>rfl
 | (n,k)::r,acc,hf=>by
  have hr:∀ y∈r,y.2=.free->(env.cells.lookup y.1).isSome=true:=fun y hy=>hf y ?FQ;rw[zm];unfold JE;by_cases hk:(k==NameKind.free)=true
  .obtain⟨a,ha⟩:=JJ.mp (hf (n,k) (by simp) (beq_iff_eq.mp hk));have ha':env.cells.lookup n=some a:=ha;rw[yf hk];dsimp only;rw[yf hk,ha'];have e:cellOf env n=pure a:=by unfold cellOf;rw[ha']
   rw[e];exact VI r _ hr
  .rw[ye hk,ye hk];exact VI r _ hr
theorem uG(hf:∀ y∈sc.names,y.2=.free->(env.cells.lookup y.1).isSome=true):closureFor sc env=pure (JE sc.names env.cells []):=by
 unfold closureFor;have h:=VI (env:=env) sc.names [] hf;dsimp only;have e:=congrArg (fun t:Sem (List (Str×Addr))=>t >>= fun r=>pure r) h;exact e
structure CArg where
 C:Addr
 s₀:Shared
 H₀:Hp
 fp:List Addr
def Cx.comp (X:Cx)(sc:?BR)(N:?A0)(c:CArg):Cx:=
 {X with N:=N,s₀:=c.s₀,H₀:=c.H₀,env:=compEnvC sc ?vE c.C X.env,outer:=X.stack,stack:=X.stack,ex:=c.fp,fn:=fun _=>?AN,pn:=[],xe:=fun _ _=>?AC}
structure CompOk (SX sc:?BR)(XN N:?A0)(nt:Nat)(caps:?DV):Prop where
 kind:sc.kind=.function
 nocell:∀ y∈sc.names,y.2≠.cell
 loc:∀ y∈sc.names,y.2=.local->sc.names.lookup y.1=some .local
 free:∀ y∈sc.names,y.2=.free->SX.names.lookup y.1=some .cell∨SX.names.lookup y.1=some .free
 len:N.length=nt+caps.length
 cap:((List.range caps.length).all fun j=>match N[nt+j]?,XN[caps.getD j 0]? with
  |some x,some y=>x==y&&sc.names.lookup x==some .free
  |_,_=>?AN)=true
theorem Vo {names:List (Str×NameKind)}{x:Str}{k:NameKind}(h:names.lookup x=some k):(x,k)∈names:=PySem.mem_of_lookup h
theorem vi {env:Env}:∀ {names:List (Str×NameKind)} {x:Str} {k:NameKind},
  (names.map fun (n,k)=>?wL).lookup x=some k->names.lookup x=some k∨(k=.cell/\names.lookup x=some .free)
 |[],_,_,h=>by simp at h
 | (n,k0)::r,x,k,h=>by
  rw[yt] at h;by_cases hx:(x==n)=true
  .by_cases hc:(k0==NameKind.free&&env.scope.kind==.function&&env.kindOf n==some .cell)=true
   .dsimp only at h;rw[yf hc,Yy,hx] at h;cases h
    right
    refine⟨rfl,?_⟩;rw[Yy,hx];simp only[Yw,beq_iff_eq] at hc;rw[hc.1.1]
   .dsimp only at h;rw[ye hc,Yy,hx] at h
    left
    rw[Yy,hx];exact h
  .have hx':=Q1.mpr hx;have e:∀ q:Str×NameKind,q.1=n->List.lookup x (q::(r.map fun (n,k)=>?wL))=List.lookup x (r.map fun (n,k)=>?wL):=by
    intro q hq;obtain⟨a,b⟩:=q;dsimp only at hq;subst hq;rw[Yy,hx']
   rw[e _ (by dsimp only;split <;> rfl)] at h;rcases vi h with z|z
   .left;rw[Yy,hx'];exact z
   .right;refine⟨z.1,?_⟩;rw[Yy,hx'];exact z.2
theorem VJ {env:Env}:∀ {names:List (Str×NameKind)} {x:Str},names.lookup x=some .free->
  (names.map fun (n,k)=>?wL).lookup x=some .cell ∨
  (names.map fun (n,k)=>?wL).lookup x=some .free
 |[],_,h=>by simp at h
 | (n,k0)::r,x,h=>by
  rw[yt];by_cases hx:(x==n)=true
  .rw[Yy,hx] at h;cases h;dsimp only;by_cases hc:(NameKind.free==NameKind.free&&env.scope.kind==.function&&env.kindOf n==some .cell)=true
   .left;rw[yf hc,Yy,hx]
   .right;rw[ye hc,Yy,hx]
  .have hx':=Q1.mpr hx;rw[Yy,hx'] at h;dsimp only;split
   .rw[Yy,hx'];exact VJ h
   .rw[Yy,hx'];exact VJ h
theorem oQ {prog:?A6}{w:?A5}{A:?Ad}{R:?xI}{s:?AI}{elt target iter:Expr}{ifs:?AW}{scope:?BR}{pos:Pos}{it acc:?AK}{env:Env}(J:Nat->Shared->Prop)
  (turn:∀ n s,J n s->wpAny ?AG A (pyNext it) (fun r s₁=>match r with
   |none=>R (.ok .next) s₁
   |some v=>wpAny ?AG A (letOwnedTupleGo target it v) (fun _ s1'=>wpAny ?AG A (assign target env v) (fun _ s₂=>
     wpAny ?AG A (forIn ifs true fun c r=>if r=true then do let ok ←isTrue c env (eval c env);pure ?K7 else pure ?Hj) (fun ok s₃=>
      if ok=true then wpAny ?AG A (eval elt env) (fun x s₄=>wpAny ?AG A (call (.builtin "list.append") [acc,x]) (fun _ s₅=>∃ m,m<n/\J m s₅) ?wG s₄) ?wG s₃
      else ∃ m,m<n/\J m s₃) ?wG s₂) ?wG s1') ?wG s₁) ?wG s)
  (n:Nat) (h:J n s):codeAny ?AG A (.compLoop (.ListComp elt [?OH] scope pos) 0 it acc env) R s:=by
 refine codeAny_loop rfl J (fun n s hJ=>?_) n h;show wpAny _ A ((compTurn (.ListComp elt [?OH] scope pos) 0 it acc env).onRaise (fun x=>do noteFrame x env;theTreesLotGoes x)) _ _ s;refine wpAny_noted ?_;rw[compTurn_list];refine ya (wpAny_standAt (ya (qa (turn n s hJ) (fun r s₁ h₁=>?_) fun _ _ z=>?AR)));cases r with
 |none=>exact yj h₁
 |some v=>
  refine ya (qa h₁ (fun _ s1' h1'=>?_) fun _ _ z=>?AR);refine ya (qa h1' (fun _ s₂ h₂=>?_) fun _ _ z=>?AR);refine ya (qa h₂ (fun ok s₃ h₃=>?_) fun _ _ z=>?AR);cases ok with
  |false=>exact yj ⟨rfl,h₃⟩
  |true=>
   refine ya (ya (qa h₃ (fun x s₄ h₄=>?_) fun _ _ z=>?AR));refine ya (qa h₄ (fun _ s₅ h₅=>?_) fun _ _ z=>?AR);exact yj (yj ⟨rfl,h₅⟩)
section
def xZ (nt:Nat)(caps:?DV)(σ:St):St:=List.replicate nt none++caps.map fun i=>σ.getD i none
theorem CompOk.hf (S:?Ci)(I:?A8)(hX:?yE):∀ y∈sc.names,y.2=.free->(X.env.cells.lookup y.1).isSome=true:=fun y hy hk=>by
 have q:=S.free y hy hk;rw[←hX] at q;obtain⟨c,e⟩:=I.ok.has y.1 q;rw[e];rfl
theorem Inv.enter (S:?Ci)(hX:?yE)(hN:X.N=XN)(I:?A8){fp:?Ar}(hf:∀ b∈fp,?Et)(hlt:∀ b∈fp,b<s.heap.objs.size){h':Heap}{t':Nat}{m':?G}
  (hn:h'.Ns s.heap.objs.size m') (hk:∀ b o,s.heap.get? b=some o->h'.get? b=some o):Inv (X.comp sc N ⟨?DK,s,H,fp⟩) pins ?IC H {s with heap:=h',toks:=t'}:=by
 have hfr:=S.hf I hX;have sub:∀ x c,(?vE).lookup x=some c->X.env.cells.lookup x=some c:=fun x c e=>by
  rcases VF hfr e with q|q
  .cases q
  .exact q
 have frs_lt:∀ b∈frs X.stack,b<s.heap.objs.size:=fun b hb=>by
  obtain⟨_,o,e,_⟩:=I.stack.mem hb;exact yu e
 have cells_lt:∀ x c,X.env.cells.lookup x=some c->c<s.heap.objs.size:=fun x c e=>by
  obtain⟨v,z⟩:=I.cell x c e;exact z.lt
 have offS:∀ b,b≠X.env.locals->b∉X.fs->b∉frs X.stack:=fun b h1 h2 z=>by
  rcases yG.mp (I.stkSub b z) with q|q
  .exact h1 q
  .exact h2 q
 have hex:∀ x,((?LJ).names.lookup x=some .cell∨(?LJ).names.lookup x=some .free)->∃ c,(?vE).lookup x=some c:=fun x hx=>by
  have fr:sc.names.lookup x=some .free:=by
   rcases hx with hx|hx
   .rcases vi (names:=sc.names) hx with z|z
    .exact absurd rfl (S.nocell _ (Vo z))
    .exact z.2
   .rcases vi (names:=sc.names) hx with z|z
    .exact z
    .cases z.1
  exact VC (Vo fr)
 refine⟨⟨I.ok.mod,S.kind,I.ok.glob,I.ok.blt,yg _,fun x y c e1 e2=>I.ok.inj x y c (sub x c e1) (sub y c e2),hex,fun x c e=>(by cases e),I.ok.hd,I.ok.frames,?A3,fun b hb=>?_,fun b o e=>I.bs b o e,yU I.ok.bsz I.sz,fun b o e hb=>?_,fun b hb=>?_,I.stack,I.stkFree⟩,
  rfl,?Cc,Un.kept hk,⟨m',hn,fun i x v e1 e2 e3=>?_⟩,fun x c e=>?_,?C9,fun x c e=>I.freeC x c (sub x c e),fun p hp=>?_,I.hok.kept hk,?_⟩
 .obtain⟨f0,f1,f2,f3,f4,f5⟩:=hf b hb;refine⟨?_,fun x c e=>f4 x c (sub x c e)⟩;exact Ym (hlt b hb)
 .obtain⟨f0,f1,f2,f3,f4,f5⟩:=hf b hb;rcases f3 with z|z
  .exact I.ok.noex b o e z
  .exact absurd (Yc (yu e) (yU I.ok.bsz z)) (jH _)
 .obtain⟨f0,f1,f2,f3,f4,f5⟩:=hf b hb;exact offS b f1 f2
 .-- a name that is taken over
  unfold xZ at e2;by_cases hi:i<nt
  .rw[Qf (by simpa using hi),jq] at e2;split at e2 <;> cases e2
  .rw[qz (by simpa using hi),Q7,yz] at e2;obtain⟨j,rfl⟩:∃ j,i=nt+j:=⟨i - nt,?A⟩
   rw[Nat.add_sub_cancel_left] at e2;cases ec:caps[j]? with
   |none=>rw[ec] at e2;cases e2
   |some ci=>
    rw[ec] at e2;have e2':σ.getD ci none=some v:=by simpa using e2
    have hj:j<caps.length:=(yi.mp ec).1;have q:=jZ.mp S.cap j (qS.mpr hj);have ed:caps.getD j 0=ci:=by rw[yW,ec];rfl
    have e1':N[nt+j]?=some x:=e1;rw[e1',ed] at q;cases ex:XN[ci]? with
    |none=>rw[ex] at q;cases q
    |some y=>
     rw[ex] at q;simp only[Yw,beq_iff_eq] at q;obtain⟨rfl,qf⟩:=q;have eσ:σ[ci]?=some (some v):=by
      rw[yW] at e2';cases z:σ[ci]? with
      |none=>rw[z] at e2';cases e2'
      |some w'=>rw[z] at e2';exact congrArg some e2'
     obtain⟨m,hm,hl⟩:=I.loc;have vis:=S.free _ (Vo qf) rfl;rw[←hX] at vis;obtain⟨u,r,lk⟩:=hl ci x v (by rw[hN];exact ex) eσ (.inr vis);refine⟨u,r,.inr ⟨VJ qf,?_⟩⟩;obtain⟨c,hc⟩:=VC (cells:=X.env.cells) (acc:=[]) (Vo qf);have hc':=sub x c hc;rcases lk with ⟨k,_⟩|⟨k,c2,ec2,z⟩
     .exfalso;have k':X.env.scope.names.lookup x=some .local:=k;dsimp only at vis;rcases vis with v1|v1
      .rw[k'] at v1;cases v1
      .rw[k'] at v1;cases v1
     .rw[hc'] at ec2;cases ec2;obtain⟨o,ho,hd⟩:=z;exact⟨c,hc,o,hk c o ho,hd⟩
 .obtain⟨v,o,ho,hd⟩:=I.cell x c (sub x c e);exact⟨v,o,hk c o ho,hd⟩
 .obtain⟨e,n,ne,nf,d⟩:=I.pin p (yF _ (show p∈pins from (?J3).elim (fun z=>absurd (show p∈([]:?Q) from z) (by simp)) id));exact⟨hk _ _ e,n,?J1,offS _ ne nf,d⟩
 .unfold xZ;rw[yK,Q7,yd];exact S.len.symm
end
def mG (nt:Nat)(caps:?DV)(wi:TI)(g:CArg->TG)(tc:CArg->TT)(te:CArg->TE):TE:=fun σ H Q=>wi σ H fun J H1=>∀ D,H1 D=none->∀ c:CArg,∃ W:Nat->Nat->St->List V->Hp->Prop,
 (∃ m,W 0 m ?IC [] (upd H1 D (.lst [])))/\∀ i m σ' ys H',W i m σ' ys H'->H' D=some (.lst ys)/\ys.length<sizeLine/\
  ((J.stop i H'/\Q (.ref D) H')∨(J.go i H'/\∀ x H2,J.yld i H' x H2->g c x σ' H2 fun σ3 H3=>tc c σ3 H3 fun b H4=>if b=true then te c σ3 H4 fun y H5=>∃ ys',H5 D=some (.lst ys')/\ys'.length<sizeLine/\∃ m',m'<m/\W (i+1) m' σ3 (ys'++[y]) (upd H5 D (.lst (ys'++[y])))
   else ∃ ys' m',m'<m/\W (i+1) m' σ3 ys' H4))
def mC:CArg->TT:=fun _ _ H Q=>Q true H
section
variable {X:Cx}{tg iter elt:Expr}{ifs:?AW}{sc SX:?BR}{N XN:?A0}{nt:Nat}{caps:?DV}{wi:TI}{g:CArg->TG}{tc:CArg->TT}{te:CArg->TE}{pos:Pos}
def PTs (X:Cx)(ifs:?AW)(t:TT):Prop:=∀ (pins:List (Addr×Obj)) (s:Shared) (σ:St) (H:Hp) (Q:Bool->Hp->Prop),Inv X pins σ H s->t σ H Q->
 wpAny ?AD X.A (forIn ifs true fun c r=>if r=true then do let ok ←isTrue c X.env (eval c X.env);pure ?K7 else pure ?Hj) ?G0 X.xe s
theorem aQ:PTs X [] (mC c):=fun pins s σ H Q I h=>wpAny_tests_nil ⟨H,I,h⟩
theorem Da(h:PT X c t):PTs X [c] t:=fun pins s σ H Q I hq=>wpAny_tests_one (h pins s σ H Q I hq)
theorem W2 {pins:?Q}{σ:St}{H2:Hp}{s2:?AI}{it:Addr}{fp:?Ar}{tn:Nat->Heap->Prop}{J:It}{Q:VK}{RR:Value->Addr->Result->Shared->Prop}{E:?M}
  (S:?Ci) (hX:?yE) (hN:X.N=XN) (hc:?Z) (hg:∀ c,?LV) (ht:∀ c,?KX) (he:∀ c,?Kx)
  (I2:Inv X pins σ H2 s2) (T:?NJ) (st2:tn 0 s2.heap) (f2:∀ b∈fp,wz X pins H2 b)
  (h:∀ D,H2 D=none->∀ c:CArg,∃ W:Nat->Nat->St->List V->Hp->Prop,
   (∃ m,W 0 m ?IC [] (upd H2 D (.lst [])))/\∀ i m σ' ys H',W i m σ' ys H'->H' D=some (.lst ys)/\ys.length<sizeLine/\
   ((J.stop i H'/\Q (.ref D) H')∨(J.go i H'/\∀ x H2,J.yld i H' x H2->g c x σ' H2 fun σ3 H3=>tc c σ3 H3 fun b H4=>if b=true then te c σ3 H4 fun y H5=>∃ ys',H5 D=some (.lst ys')/\ys'.length<sizeLine/\∃ m',m'<m/\W (i+1) m' σ3 (ys'++[y]) (upd H5 D (.lst (ys'++[y])))
    else ∃ ys' m',m'<m/\W (i+1) m' σ3 ys' H4)))
  (hR:∀ D C s' m H',s'.heap.Ns C m->s2.heap.objs.size<C->Inv X pins σ H' s'->H' C=none->C≠X.env.locals->(∀ x c,X.env.cells.lookup x=some c->c≠C)->(∀ p∈X.pn++pins,p.1≠C)->X.s₀.heap.objs.size<=C->Q (.ref D) H'->RR (.ref D) C (.ok .next) s') :
  wpAny ?AD X.A (newList []) (fun acc s₃=>wpAny ?AD X.A (newFunctionEnv sc X.env.globals ?vE [] X.env.qual none .none (some X.env)) (fun cenv s₄=>
   codeAny ?AD X.A (.compStart ?qG 0 ?EP acc {cenv with scope:=?LJ}) (RR acc cenv.locals) s₄) E s₃) E s2:=by
 have lt2:∀ b∈fp,b<s2.heap.objs.size:=fun b hb=>by
  obtain⟨o,e,_⟩:=T.obj _ _ st2 b hb;exact yu e
 have hD0:H2 s2.heap.objs.size=none:=I2.hok.fresh ?AH;have I3:Inv X pins σ (upd H2 s2.heap.objs.size (.lst [])) {s2 with heap:=s2.heap.push {cls:=?S, dict:=none,data:=.seq ([]:?AX).toArray}}:=
  I2.laid (t':=s2.toks) (fun b u e=>?At) ?AH ⟨YC _,[],0,.nil,?CT⟩
 have f3:∀ b∈fp,wz X pins ?tW b:=fun b hb=>⟨by rw[yR (Ym (lt2 b hb))];exact(f2 b hb).1,(f2 b hb).2⟩
 refine qe (wpAny_newFunctionEnv S.nocell (by intro y hy;simp at hy) (fun h1 hn1 hs1=>?_) S.kind);dsimp only at hn1 hs1 ⊢;generalize hg3:({s2 with heap:=s2.heap.push {cls:=?S, dict:=none,data:=.seq ([]:?AX).toArray}}:?AI)=s3 at I3;have e3:s2.heap.push {cls:=?S, dict:=none,data:=.seq ([]:?AX).toArray}=s3.heap:=by rw[←hg3]
 rw[e3] at hn1 hs1 ⊢;have lt3:∀ b∈fp,b<s3.heap.objs.size:=fun b hb=>by
  rw[←e3,Heap.size_push];exact Nat.lt_succ_of_lt (lt2 b hb)
 have hC2:s2.heap.objs.size<s3.heap.objs.size:=by rw[←e3,Heap.size_push];exact ?Kf
 have hk:∀ b o,s3.heap.get? b=some o->h1.get? b=some o:=fun b o e=>hs1.extBut b o ?J1 ?At;have I4:=I3.enter S hX hN f3 lt3 (t':=?xK) hn1 hk;have fin:∀ {s':Shared} {σ':St} {H':Hp},Inv ?D9 pins σ' H' s'->Q ?K9 H'->RR ?K9 s3.heap.objs.size (.ok .next) s':=fun {s' σ' H'} I' q=>by
  obtain⟨m,hm,_⟩:=I'.loc;refine hR _ _ s' m H' hm hC2 (I3.call' (ch:=fp) I'.os I'.base I'.hok I'.bare fun b hb=>?_) I'.free (QN I3.lt) (fun x c e=>?_) (fun p hp=>?_) I3.sz q
  .obtain⟨g0,g1,g2,g3,g4,g5⟩:=f3 b hb;exact⟨g3,g1,g4,g5⟩
  .obtain⟨v,z⟩:=I3.cell x c e;exact Ym z.lt
  .exact Ym (yu (I3.pin p hp).1)
 have subc:∀ x c,(?vE).lookup x=some c->X.env.cells.lookup x=some c:=fun x c e=>by
  rcases VF (S.hf I3 hX) e with q|q
  .cases q
  .exact q
 obtain⟨W,⟨m0,w0⟩,step⟩:=h _ hD0 ?Pa;have stat:∀ {H':Hp},?jS->∀ b∈fp,wz ?D9 pins H' b:=fun {H'} hn b hb=>by
  obtain⟨g0,g1,g2,g3,g4,g5⟩:=f3 b hb;refine⟨hn b hb,Ym (lt3 b hb),fun z=>?_,.inl hb,fun x c e=>g4 x c (subc x c e),fun p hp=>g5 p (yF _ ((?J3).elim (fun z=>absurd (show p∈([]:?Q) from z) (by simp)) id))⟩;rcases yG.mp (I3.stkSub b z) with q|q
  .exact g1 q
  .exact g2 q
 have st4:tn 0 h1:=T.keep _ _ _ st2 fun b hb o e=>hk b o (by rw[←e3];exact ?At);have fr4:∀ b∈fp,upd H2 s2.heap.objs.size (.lst []) b=none:=fun b hb=>(f3 b hb).1;have hs4:({s2 with heap:=h1,toks:=?xK}:Shared)={s3 with heap:=h1,toks:=?xK}:=by rw[←hg3]
 rw[hs4];have loop:codeAny (model X.prog X.w) X.A (.compLoop (.ListComp elt [⟨tg,iter,ifs,0⟩] sc pos) 0 (.ref it) (.ref s2.heap.objs.size) (compEnvC sc (JE sc.names X.env.cells []) s3.heap.objs.size X.env)) (RR (.ref s2.heap.objs.size) s3.heap.objs.size)
   {s3 with heap:=h1,toks:=?xK}:=by
  refine oQ (fun n s'=>∃ i σ' ys H',Inv ?D9 pins σ' H' s'/\tn i s'.heap/\?jS/\W i n σ' ys H') ?_ m0 ⟨0,_,[],_,I4,st4,fr4,w0⟩;rintro n s' ⟨i,σ',ys,H',I',st',fr',w'⟩;obtain⟨hD,hz,alt⟩:=step i n σ' ys H' w';rcases alt with ⟨stop,qn⟩|⟨go,turn⟩
  .refine thn (T.done ?D9 rfl rfl rfl hc i pins s' σ' H' _ I' (stat fr') st' stop) fun r s4 ⟨hr,J4⟩=>?_;subst hr;exact fin J4 qn
  .refine thn (T.item ?D9 rfl rfl rfl hc i pins s' σ' H' _ I' (stat fr') st' go) fun r s4 ⟨u,hr,h4⟩=>?_;subst hr;refine thn h4 fun _ s5 ⟨x,H5,I5,r5,y5,st5,fr5⟩=>?_;have I5':=I5.pinned (stat fr5) (T.obj _ _ st5);refine thn (hg _ _ s5 σ' H5 x u _ I5' r5 (turn x H5 y5)) fun _ s6 ⟨σ6,H6,I6,q6⟩=>?_;refine thn (ht _ _ s6 σ6 H6 _ I6 q6) fun ok s7 ⟨H7,I7,q7⟩=>?_;have again:∀ {s8:Shared} {H8:Hp} {ys8:List V} {m8:Nat},Inv ?D9 (pins++Wm fp s5.heap) σ6 H8 s8->m8<n->W (i+1) m8 σ6 ys8 H8->
     ∃ m,m<n/\∃ i σ' ys H',Inv ?D9 pins σ' H' s8/\tn i s8.heap/\?jS/\W i m σ' ys H':=fun {s8 H8 ys8 m8} I8 hm w8=>by
    refine⟨m8,hm,i+1,σ6,ys8,H8,I8.unpinned,T.keep _ _ _ st5 fun b hb o e=>(I8.pin (b,o) ?Hu).1,fun b hb=>?_,w8⟩;obtain⟨o,e,d⟩:=T.obj _ _ st5 b hb;exact(I8.pin (b,o) ?Hu).2.1
   cases ok with
   |false=>
    obtain⟨ys8,m8,hm,w8⟩:=q7;exact again I7 hm w8
   |true=>
    refine thn (he _ _ s7 σ6 H7 _ I7 q7) fun y s8 ⟨v,H8,I8,r8,ys8,e8,z8,m8,hm,w8⟩=>?_;refine thn (Kk (X:=?D9) _ s8 σ6 H8 ?K9 [v] _ [y] (fun _ H9=>H9=upd H8 s2.heap.objs.size (.lst (ys8++[v]))) I8 rfl (.cons r8 .nil) ⟨_,ys8,v,rfl,rfl,e8,z8,rfl⟩)
     fun _ s9 ⟨_,H9,I9,_,e9⟩=>?_
    subst e9;exact again I9 hm w8
 exact codeAny_compStart_list loop (T.self X.A 0 _ _ _ st4 loop)
theorem cC (S:?Ci)(hi:?Kg)(hg:∀ c,?LV)(ht:∀ c,?KX)(he:∀ c,?Kx)(hc:?Z:=by rfl)(hX:?yE:=by rfl)(hN:X.N=XN:=by rfl)
  (hs:∀ x,foldedSetIterable iter X.env x=pure x:=by intro _;rfl):PE X ?qG ?OK:=by
 intro pins s σ H Q I h;rw[eval_ListComp];refine wpAny_comprehension_free (use:=none) rfl hs (uG (S.hf I hX)) S.kind S.loc (thn ?Jm fun v s1 h1=>thn h1 fun itv s2 h2=>?_);obtain⟨it,fp,tn,J,H2,rfl,I2,T,st2,f2,h2⟩:=h2;refine W2 (RR:=fun acc C=>compPost ?AD X.A X.xe none ?Bn acc C) S hX hN hc hg ht he I2 T st2 f2 h2 fun D C s' m H' hm hC I' hf hL hcl hpn hs0 q=>?_;refine⟨m,hm,fun h'' hs''=>⟨.ref D,H',I'.turned (it:=C) (t':=s'.toks) (fun b o hb e=>?Os) hf hL (.inr hs0) hcl hpn,rfl,q⟩⟩
theorem mi(S:?Ci)(hnd:?CC)(hix:X.N[i]?=some y)(hy:?KH)(hi:?Kg)(hg:∀ c,?LV)(ht:∀ c,?KX)(he:∀ c,?Kx)
  (hsw:swapsWith ?qG (some ?GH) spos.line X.env=pure true:=by rfl) (hc:?Z:=by rfl) (hX:?yE:=by rfl) (hN:X.N=XN:=by rfl)
  (hs:∀ x,foldedSetIterable iter X.env x=pure x:=by intro _;rfl) (hf:?uL:=by first|exact .inl rfl|exact ?By):PS X (.Assign [.Name y py] ?qG spos) (Fv ?OK (XF i)):=by
 intro pins s σ H D I h;rw[exec_Assign_Name_used _ _ _ _ hsw];refine ya (wpAny_standAt (ya ?_));show wpAny _ X.A (do let _ ←comprehension (.ListComp elt [⟨tg,iter,ifs,0⟩] sc pos) sc X.env _ (newList []) false (eval iter X.env) (some (assign (.Name y py) X.env))) _ _ s;refine ya (qa (wpAny_comprehension_free (use:=?O8) (Q:=fun _ s'=>SP X pins D .next s') rfl hs (uG (S.hf I hX)) S.kind S.loc (thn ?Jm fun v s1 h1=>thn h1 fun itv s2 h2=>?_)) (fun _ s' hq=>yj (yj hq)) fun _ _ e=>e);obtain⟨it,fp,tn,J,H2,rfl,I2,T,st2,f2,h2⟩:=h2;refine W2 (Q:=fun x H1=>XF i x σ H1 D.nx) (RR:=fun acc C=>compPost ?AD X.A X.xe ?O8 (fun _ s'=>SP X pins D .next s') acc C) S hX hN hc hg ht he I2 T st2 f2 h2 fun D' C s' m H' hm hC I' hfC hL hcl hpn hs0 q=>?_;show wpAny _ X.A (assign ?GH X.env (.ref D')) _ _ s';refine wpAny_assign_Name (ap (v:=.ref D') I' hnd hix hy rfl (fun s5 I5 hch=>?_) hf);obtain⟨a,sb,ha⟩:=hch;have hCa:C≠a:=by
  rcases ha with z|z
  .rw[z];exact hL
  .exact(hcl _ _ z).symm
 refine⟨m,hm.sameBut sb hCa,fun h'' hs''=>⟨σ.set i (some (.ref D')),H',I5.turned (it:=C) (t':=s5.toks) (fun b o hb e=>?Os) hfC hL (.inr hs0) hcl hpn,q⟩⟩
end
section
theorem Inv.drawn {fp:?Ar}{h':Heap}{t':Nat}{ds:?AL}{us:?AX}{n:Nat}(I:?A8)(hf:∀ b∈fp,?Et)(kp:∀ b o,b∉fp->s.heap.get? b=some o->h'.get? b=some o)
  (new:h'.get? s.heap.objs.size=some {cls:=?zX, data:=.seq us.toArray n}) (r:qc ds us) (hz:?xL):Inv X pins σ (upd H s.heap.objs.size ?CA) {s with heap:=h',toks:=t'}:=by
 have hT:H s.heap.objs.size=none:=I.hok.fresh ?AH;have nf:∀ b u,H b=some u->b∉fp:=fun b u e hb=>by rw[(hf b hb).1] at e;cases e
 refine I.call (g':=s.gens) (d':=s.drawn) (ch:=fp) ⟨fun b o e n hb hx=>?F2,fun b o e n hb hx=>⟨o.slots,?F2⟩,fun b o e n hx=>?_,fun b o e hx=>⟨o,?F2⟩,fun b xs q=>?_,fun b o u q=>?_,fun b ps q=>?_⟩ ?_ I.bare ?wH
 .rw[yR (Ym (yu e))];exact n
 .rw[yR (Yo q hT)];exact q
 .rw[yR (Yo q hT)];exact q
 .exact⟨#[],by rw[yR (Yo q hT),q];simp⟩
 .intro b u e;by_cases hb:b=s.heap.objs.size
  .subst hb;rw[yX] at e;cases e;exact⟨hz,us,r,_,new,rfl,n,rfl⟩
  .rw[yR hb] at e;refine(?Ln).stay (fun c v hc q=>kp c v (fun z=>?_) q) (fun c q=>?_) fun c xs q=>?_
   .rcases hc with w' | w'
    .subst w';exact nf _ _ e z
    .exact nf _ _ w' z
   .rw[yR (Yo q hT)];exact q
   .rw[yR (Yo q hT)];exact q
 .obtain⟨f0,f1,f2,f3,f4,f5⟩:=hf b hb;exact⟨f3,f1,f4,f5⟩
theorem Inv.turnedL {fp:?Ar}{h':Heap}{t':Nat}(I:?A8)(hf:∀ b∈fp,?Et)(kp:∀ b o,b∉fp->s.heap.get? b=some o->h'.get? b=some o):Inv X pins σ H {s with heap:=h',toks:=t'}:=by
 have nf:∀ b u,H b=some u->b∉fp:=fun b u e hb=>by rw[(hf b hb).1] at e;cases e
 refine I.call (g':=s.gens) (d':=s.drawn) (ch:=fp) ⟨fun b o e n hb hx=>?F2,fun b o e n hb hx=>⟨o.slots,?F2⟩,fun b o e n hx=>n,fun b o e hx=>⟨o,?F2⟩,fun b xs q=>q,fun b o u q=>q,fun b ps q=>⟨#[],by rw[q];simp⟩⟩ ?_ I.bare ?wH
 .intro b u e;refine(?Ln).stay (fun c v hc q=>kp c v (fun z=>?_) q) (fun c q=>q) fun c xs q=>q;rcases hc with w' | w'
  .subst w';exact nf _ _ e z
  .exact nf _ _ w' z
 .obtain⟨f0,f1,f2,f3,f4,f5⟩:=hf b hb;exact⟨f3,f1,f4,f5⟩
end
def Ite (K:?A1)(a:Addr):It:=
 ⟨fun i H=>∃ xs x,SqL K H a xs/\xs[i]?=some x,fun i H x H'=>∃ T y,H T=none/\x=.ref T/\(∀ xs,SqL K H a xs->xs[i]?=some y)/\H'=upd H T (.tup [.int (i:Int),y]),fun i H=>∃ xs,SqL K H a xs/\xs.length<=i⟩
theorem oX {P:?A6}{w:?A5}{K:?A1}{es:?AW}{x1:Nat}{pos:Pos}(a e it:Addr)(hne:e≠it):Turn P w K (.Tuple es x1 pos) (Ite K a) [e,it] e (fun i h=>(∃ old,IsEnum h e it (i:Int) old)/\h.IsListIter it a i) where
 mem:=by simp
 obj:=fun i h st b hb=>by
  obtain⟨⟨old,h1⟩,o,h2,c,d⟩:=st;rcases yG.mp hb with z|z
  .subst z;exact⟨_,h1,fun v z=>by
    have z':Data.fields _=Data.cell v:=z;cases z'⟩
  .rw[yy.mp z];exact⟨o,h2,fun v z=>by rw[d] at z;cases z⟩
 keep:=fun i h h' st k=>by
  obtain⟨⟨old,h1⟩,h2⟩:=st;exact⟨⟨old,k e (by simp) _ h1⟩,h2.at fun o z=>k it (by simp) o z⟩
 item:=by
  intro X hP hw hK hc i pins s σ H E I hf st hg;subst hP hw hK;obtain⟨xs,x,hq,hx⟩:=hg;obtain⟨its,rv,p,hz⟩:=I.list hq;obtain⟨u,hu,ru⟩:=rv.get hx;obtain⟨⟨old,he⟩,hit⟩:=st;refine wpAny_pyNext_enum_item he hit p.isList (x:=u) (by simpa using hu) hne fun h' out it' tup sz kp=>?_;refine⟨_,rfl,wpAny_letOwnedTupleGo_enum out fun h2 he2 sb=>?_⟩;have heT:e≠s.heap.objs.size:=Ym (yu he);have kp2:∀ b o,b∉[e,it]->s.heap.get? b=some o->h2.get? b=some o:=fun b o hb q=>by
   have b1:b≠e:=fun z=>hb (by simp[z]);have b2:b≠it:=fun z=>hb (by simp[z]);exact(sb.2 b b1).trans (kp b o b1 b2 q)
  refine⟨.ref s.heap.objs.size,upd H s.heap.objs.size (.tup [.int (i:Int),x]),?_,rfl,⟨?DK,x,?C9,rfl,fun ys hy=>?tG,rfl⟩,⟨⟨u,by simpa using he2⟩,it'.at fun o z=>(sb.2 it (Ne.symm hne)).trans z⟩,fun b hb=>?_⟩
  .exact I.drawn (t':=?zU) (us:=[.int (i:Int) s.toks,u]) (n:=0) hf kp2 ((sb.2 _ (Ne.symm heT)).trans tup) (.cons ⟨_,rfl⟩ (.cons ru .nil)) (by show 2<=sizeLine;decide)
  .have hl:b<s.heap.objs.size:=by
    rcases yG.mp hb with z|z
    .subst z;exact yu he
    .rw[yy.mp z];obtain⟨o,q,_⟩:=hit;exact yu q
   rw[yR (Ym hl)];exact ?yG
 done:=by
  intro X hP hw hK hc i pins s σ H E I hf st hg;subst hP hw hK;obtain⟨xs,hq,hx⟩:=hg;obtain⟨its,rv,p,hz⟩:=I.list hq;obtain⟨⟨old,he⟩,hit⟩:=st;have hl:=rv.length;refine wpAny_pyNext_enum_end ?Bs he hit p.isList ?qY fun h' eb=>⟨rfl,I.turnedL (t':=?Ac) hf fun b o hb q=>eb b o (fun z=>hb (by simp[z])) q⟩
 self:=fun _ _ _ _ _ st h=>by
  obtain⟨⟨old,he⟩,_⟩:=st;exact wpAny_pyIter_enum he h
def Itz (K:?A1)(a b:Addr):It:=
 ⟨fun i H=>∃ xs ys x y,SqL K H a xs/\SqL K H b ys/\xs[i]?=some x/\ys[i]?=some y,fun i H v H'=>∃ T x y,H T=none/\v=.ref T/\(∀ xs,SqL K H a xs->xs[i]?=some x)/\(∀ ys,SqL K H b ys->ys[i]?=some y)/\H'=upd H T (.tup [x,y]),
  fun i H=>∃ xs ys,SqL K H a xs/\SqL K H b ys/\(xs.length<=i∨ys.length<=i)⟩
theorem rn {P:?A6}{w:?A5}{K:?A1}{es:?AW}{x1:Nat}{pos:Pos}(l1 l2 z TI TO i1 i2:Addr)(D:?Fj) :
  Turn P w K (.Tuple es x1 pos) (Itz K l1 l2) [z,TO,i1,i2,TI] z (fun i h=>IsZip h z TI TO .none/\IsPair h TI (.ref i1) (.ref i2)/\(∃ a b,IsPair h TO a b)/\h.IsListIter i1 l1 i/\h.IsListIter i2 l2 i) where
 mem:=by simp
 obj:=fun i h st b hb=>by
  obtain⟨h1,h2,⟨a,c,h3⟩,⟨o4,e4,c4,d4⟩,⟨o5,e5,c5,d5⟩⟩:=st;have nf:∀ {vs:Array Value} {v:Option Value},Data.fields vs≠Data.cell v:=fun z=>by cases z
  have ns:∀ {vs:Array Value} {n:Nat} {v:Option Value},Data.seq vs n≠Data.cell v:=fun z=>by cases z
  simp only[yG,Y8,or_false] at hb;rcases hb with rfl|rfl|rfl|rfl|rfl
  .exact⟨_,h1,fun v z=>nf z⟩
  .exact⟨_,h3,fun v z=>ns z⟩
  .exact⟨_,e4,fun v z=>by rw[d4] at z;cases z⟩
  .exact⟨_,e5,fun v z=>by rw[d5] at z;cases z⟩
  .exact⟨_,h2,fun v z=>ns z⟩
 keep:=fun i h h' st k=>by
  obtain⟨h1,h2,⟨a,c,h3⟩,h4,h5⟩:=st;exact⟨k z (by simp) _ h1,k TI (by simp) _ h2,⟨a,c,k TO (by simp) _ h3⟩,h4.at fun o q=>k i1 (by simp) o q,h5.at fun o q=>k i2 (by simp) o q⟩
 item:=by
  intro X hP hw hK hc i pins s σ H E I hf st hg;subst hP hw hK;obtain⟨xs,ys,x,y,hq1,hq2,hx,hy⟩:=hg;obtain⟨its1,rv1,p1,_⟩:=I.list hq1;obtain⟨its2,rv2,p2,_⟩:=I.list hq2;obtain⟨u,hu,ru⟩:=rv1.get hx;obtain⟨v,hv,rv⟩:=rv2.get hy;obtain⟨h1,h2,⟨a,c,h3⟩,h4,h5⟩:=st;have lts:∀ b∈[z,TO,i1,i2,TI],b<s.heap.objs.size:=fun b hb=>by
   obtain⟨_,e4,_⟩:=h4;obtain⟨_,e5,_⟩:=h5;simp only[yG,Y8,or_false] at hb;rcases hb with rfl|rfl|rfl|rfl|rfl
   .exact yu h1
   .exact yu h3
   .exact yu e4
   .exact yu e5
   .exact yu h2
  refine wpAny_pyNext_zip_item D h1 h2 h3 h4 h5 p1.isList p2.isList (x:=u) (y:=v) (by simpa using hu) (by simpa using hv) fun h' g1 g2 g3 g4 g5 sz kp=>?_;refine⟨_,rfl,wpAny_letOwnedTupleGo_zip g1 fun hh gz sb=>?_⟩;have zT:z≠s.heap.objs.size:=Ym (lts z (by simp));have kp2:∀ b o,b∉[z,TO,i1,i2,TI]->s.heap.get? b=some o->hh.get? b=some o:=fun b o hb q=>by
   simp only[yG,Y8,or_false,not_or] at hb;exact(sb.2 b hb.1).trans (kp b o hb.1 hb.2.1 hb.2.2.1 hb.2.2.2.1 q)
  refine⟨.ref s.heap.objs.size,upd H s.heap.objs.size (.tup [x,y]),?_,rfl,⟨?DK,x,y,?C9,rfl,fun ws hw=>by rw[I.list_inj hw hq1];exact hx,fun ws hw=>by rw[I.list_inj hw hq2];exact hy,rfl⟩,
   ⟨gz,(sb.2 TI D.TIz).trans (kp TI _ D.TIz D.TITO D.TIi1 D.TIi2 h2),⟨u,v,(sb.2 TO D.TOz).trans g2⟩,g3.at fun o q=>(sb.2 i1 D.i1z).trans q,g4.at fun o q=>(sb.2 i2 D.i2z).trans q⟩,fun b hb=>?_⟩
  .exact I.drawn (t':=?Ac) (us:=[u,v]) (n:=0) hf kp2 ((sb.2 _ (Ne.symm zT)).trans g5) (.cons ru (.cons rv .nil)) (by show 2<=sizeLine;decide)
  .rw[yR (Ym (lts b hb))];exact ?yG
 done:=by
  intro X hP hw hK hc i pins s σ H E I hf st hg;subst hP hw hK;obtain⟨xs,ys,hq1,hq2,hx⟩:=hg;obtain⟨its1,rv1,p1,_⟩:=I.list hq1;obtain⟨its2,rv2,p2,_⟩:=I.list hq2;obtain⟨h1,h2,⟨a,c,h3⟩,h4,h5⟩:=st;have e1:=rv1.length;have e2:=rv2.length;refine wpAny_pyNext_zip_end ?Bs D h1 h2 h3 h4 h5 p1.isList p2.isList (hx.elim (fun q=>.inl ?qY) fun q=>.inr ?qY) fun h' kp=>⟨rfl,I.turnedL (t':=?Ac) hf fun b o hb q=>?_⟩
  simp only[yG,Y8,or_false,not_or] at hb;exact kp b o hb.1 hb.2.1 hb.2.2.1 hb.2.2.2.1 q
 self:=fun _ _ _ _ _ st h=>wpAny_pyIter_zip st.1 h
def Ij (ta:TA):TI:=fun σ H R=>ta σ H fun vs H1=>∃ a xs,vs=[.ref a]/\Rd H1 a ?Aa/\∀ K,R (Ite K a) H1
def IK (K:?A1)(ta:TA):TI:=fun σ H R=>ta σ H fun vs H1=>∃ a b xs ys,vs=[.ref a,.ref b]/\SqL K H1 a xs/\SqL K H1 b ys/\R (Itz K a b) H1
section
theorem DF {a:Expr}{ta:TA}{p pos:Pos}(hg:Gl X "enumerate")(hm:X.mg "enumerate" = none)(ha:PA X [a] ta)(hs:?jF:=by rfl):PI X ?KE (.Call (.Name "enumerate" p) [a] [] pos) (Ij ta):=by
 intro pins s σ H R I h;refine Call_ (Vv I hg hm boot_enumerate (PyProof.Rows.callWith_type1 (thn ?Cf fun us s1 ⟨vs,H1,I1,r1,q1⟩=>?_) hs rfl));obtain⟨l,xs,e,hl,q⟩:=q1;subst e;cases r1 with
 |cons r rr=>
  cases rr;cases r;obtain⟨hz,its,n,rv,eo⟩:=hl.ok I1.hok;refine call_enumerate_1 eo fun h' he hit sz kp=>?_;refine wpAny_pyIter_enum he ?_;have hne:s1.heap.objs.size+1≠s1.heap.objs.size:=Nat.succ_ne_self _;refine⟨_,[s1.heap.objs.size+1,s1.heap.objs.size],_,_,H1,rfl,?OW,oX l _ _ hne,⟨⟨?An,he⟩,hit⟩,fun b hb=>?_,q X.K⟩;have hb':s1.heap.objs.size<=b:=by
   simp only[yG,Y8,or_false] at hb;rcases hb with rfl|rfl
   .exact ?G7
   .exact yg _
  exact ?ND
theorem EB {a b:Expr}{ta:TA}{p pos:Pos}(hg:Gl X "zip")(hm:X.mg "zip" = none)(ha:PA X [a,b] ta)(hs:?jE:=by rfl)(hs2:?jN:=by rfl) :
  PI X ?KE (.Call (.Name "zip" p) [a,b] [] pos) (IK X.K ta):=by
 intro pins s σ H R I h;refine Call_ (Vv I hg hm boot_zip (PyProof.Rows.callWith_type1 (thn ?Cf fun us s1 ⟨vs,H1,I1,r1,q1⟩=>?_) (by rw[hs,hs2]) (by rw[hs2];rfl)));obtain⟨l1,l2,xs,ys,e,hl1,hl2,q⟩:=q1;subst e;cases r1 with
 |cons r rr=>
  cases rr with
  |cons r' rr=>
   cases rr;cases r;cases r';obtain⟨its1,rv1,p1,_⟩:=I1.list hl1;obtain⟨its2,rv2,p2,_⟩:=I1.list hl2;have lt1:l1<s1.heap.objs.size:=by obtain⟨_,e,_⟩:=p1.isList;exact yu e
   have lt2:l2<s1.heap.objs.size:=by obtain⟨_,e,_⟩:=p2.isList;exact yu e
   refine call_zip_2 p1.isList p2.isList fun h' g1 g2 g3 g4 g5 sz kp=>?_;refine wpAny_pyIter_zip g1 ?_;refine⟨_,[s1.heap.objs.size+4,s1.heap.objs.size+3,s1.heap.objs.size,s1.heap.objs.size+1,s1.heap.objs.size+2],_,_,H1,rfl,?OW,rn l1 l2 _ _ _ _ _ ?Ob,⟨g1,g2,⟨?An,?An,g3⟩,g4,g5⟩,fun b hb=>?_,q⟩;have hb':s1.heap.objs.size<=b:=by
    simp only[yG,Y8,or_false] at hb;rcases hb with rfl|rfl|rfl|rfl|rfl
    .exact jA _ _
    .exact jA _ _
    .exact yg _
    .exact jA _ _
    .exact jA _ _
   exact ?ND
end
end L2
namespace My
def G (a b:Int):Int:=((Int.gcd a b:Nat):Int)
theorem G_end {a:Int}(ha:0<=a):G a 0=a:=by
 show((Int.gcd a 0:Nat):Int)=a;rw[Int.gcd_zero_right];lia
theorem G_turn {a b:Int}(ha:0<=a)(hb:0<b):G b (Int.fmod a b)=G a b:=by
 unfold G;rw[jv a (yN hb)];obtain⟨m,rfl⟩:=YJ ha;obtain⟨n,rfl⟩:=YJ (yN hb);show((Nat.gcd (n:Int).natAbs ((m:Int) % (n:Int)).natAbs:Nat):Int)=((Nat.gcd (m:Int).natAbs (n:Int).natAbs:Nat):Int)
 have e:((m:Int) % (n:Int)).natAbs=m % n:=by lia
 rw[e,qU,qU,Nat.gcd_comm m n,Nat.gcd_comm n (m % n),←Nat.gcd_rec]
theorem G_pos {a b:Int}(hb:0<b):0<G a b:=by
 have:0<Int.gcd a b:=Int.gcd_pos_of_ne_zero_right a ?A;unfold G;lia
theorem num_share {t b:Int}(hb:0<b):Int.fdiv t (G t b)=(?Ch).num:=by
 rw[Yq _ (yN (G_pos hb)),Rat.num_divInt,Int.sign_eq_one_of_pos hb,Int.one_mul];unfold G;rw[Int.gcd_comm]
theorem den_share {t b:Int}(hb:0<b):Int.fdiv b (G t b)=((?Ch).den:Int):=by
 rw[Yq _ (yN (G_pos hb)),Rat.den_divInt,ye (show ¬ b=0 by lia),QW,Int.natAbs_of_nonneg (yN hb)];unfold G;rw[Int.gcd_comm]
theorem xU (q:Rat):(q.den:Int)≠0:=by have:=q.den_pos;lia
theorem den_pos' (q:Rat):(0:Int)<q.den:=by have:=q.den_pos;lia
theorem q_add (p q:Rat):Rat.divInt (p.num*q.den+q.num*p.den) (p.den*q.den)=p+q:=by
 rw[←jD _ _ (xU p) (xU q),YX,YX]
theorem q_sub (p q:Rat):Rat.divInt (p.num*q.den - q.num*p.den) (p.den*q.den)=p - q:=by
 rw[←Rat.divInt_sub_divInt _ _ (xU p) (xU q),YX,YX]
theorem q_mul (p q:Rat):Rat.divInt (p.num*q.num) (p.den*q.den)=p*q:=by
 rw[←jI,YX,YX]
theorem q_div (p q:Rat):Rat.divInt (p.num*q.den) (p.den*q.num)=p / q:=by
 rw[←jI,YX,jO,Rat.inv_def]
theorem q_lt (p q:Rat):p.num*q.den<q.num*p.den ↔ p<q:=(Rat.lt_iff p q).symm
theorem q_cross {t b:Int}(hb:0<b):(?Ch).num*b=t*(?Ch).den:=by
 have h:=YX ?Ch;exact(Rat.divInt_eq_divInt_iff (xU _) ?A).mp h
theorem q_num_pos {q:Rat}(h:0<q):0<q.num:=by
 have h2:=(Rat.lt_iff 0 q).mp h;have e1:(0:Rat).num=0:=rfl;have e2:(0:Rat).den=1:=rfl;rw[e1,e2,Int.zero_mul] at h2;lia
theorem q_num_nn {q:Rat}(h:0<=q):0<=q.num:=Rat.num_nonneg.mpr h
theorem q_inj {p q:Rat}(h1:p.num=q.num)(h2:(p.den:Int)=q.den):p=q:=Rat.ext h1 ?A
end My
namespace L3
open PySem PySem.Spec PySem.Calls PyProof.Rows L2
inductive D where
 |non|bl (b:Bool)|int (i:Int)|str (x:Str)|raw (v:V)
 |tup (ds:?A7)|lst (ds:?A7)
 |dk (ks:?Aj) (ds:?A7)|dt (ks:?EE) (ds:?A7)
 |obj (C:Addr) (fs:?A0) (ds:?A7)
 |exc (C:Addr)
 |scr (ns:?CQ)
mutual
noncomputable def Is (K:?A1)(H:Hp):D->V->Prop
 |.non,v=>v=.non
 |.bl b,v=>v=.bl b
 |.int i,v=>v=.int i
 |.str x,v=>v=.str x
 |.raw u,v=>v=u
 |.tup ds,v=>∃ a xs,v=.ref a/\SqT K H a xs/\IsL K H ds xs
 |.lst ds,v=>∃ a xs,v=.ref a/\Rd H a ?Aa/\IsL K H ds xs
 |.dk ks ds,v=>∃ a xs o,v=.ref a/\H a=some (.frz o (.dK ?Au))/\ks.length=xs.length/\IsL K H ds xs
 |.dt ks ds,v=>∃ a xs,v=.ref a/\Rd H a (.dT ?Au)/\ks.length=xs.length/\IsL K H ds xs
 |.obj C fs ds,v=>∃ a dx xs,v=.ref a/\H a=some (.ins C dx ?FC)/\fs.length=xs.length/\IsL K H ds xs
 |.exc C,v=>∃ a,v=.ref a/\H a=some (GI a ?AF)
 |.scr ns,v=>∃ a,v=.ref a/\SqL K H a ?CD
noncomputable def IsL (K:?A1)(H:Hp):List D->List V->Prop
 |[],xs=>xs=[]
 |d::ds,xs=>∃ x r,xs=x::r/\Is K H d x/\IsL K H ds r
end
section
variable {K:?A1}{H H':Hp}
theorem ZR(e:?FN)(h:Rd H a u):Rd H' a u:=by
 rcases h with h|⟨o,h⟩
 .exact ?Kv
 .exact ?Jp
theorem jE(e:?FN)(h:SqT K H a xs):SqT K H' a xs:=by
 rcases h with (h|⟨o,h⟩)|h
 .exact .inl ?Kv
 .exact .inl ?Jp
 .exact .inr h
mutual
theorem Is.mono (e:?FN):∀ {d:D} {v:V},Is K H d v->Is K H' d v
 |.non,_,h=>by simp only[Is] at h ⊢;exact h
 |.bl _,_,h=>by simp only[Is] at h ⊢;exact h
 |.int _,_,h=>by simp only[Is] at h ⊢;exact h
 |.str _,_,h=>by simp only[Is] at h ⊢;exact h
 |.raw _,_,h=>by simp only[Is] at h ⊢;exact h
 |.tup ds,_,h=>by simp only[Is] at h ⊢;obtain⟨a,xs,e1,e2,e3⟩:=h;exact⟨a,xs,e1,jE e e2,?Eq⟩
 |.lst ds,_,h=>by simp only[Is] at h ⊢;obtain⟨a,xs,e1,e2,e3⟩:=h;exact⟨a,xs,e1,ZR e e2,?Eq⟩
 |.dk ks ds,_,h=>by simp only[Is] at h ⊢;obtain⟨a,xs,o,e1,e2,e4,e3⟩:=h;exact⟨a,xs,o,e1,e _ _ e2,e4,?Eq⟩
 |.dt ks ds,_,h=>by simp only[Is] at h ⊢;obtain⟨a,xs,e1,e2,e4,e3⟩:=h;exact⟨a,xs,e1,ZR e e2,e4,?Eq⟩
 |.obj C fs ds,_,h=>by simp only[Is] at h ⊢;obtain⟨a,dx,xs,e1,e2,e4,e3⟩:=h;exact⟨a,dx,xs,e1,e _ _ e2,e4,?Eq⟩
 |.exc C,_,h=>by simp only[Is] at h ⊢;obtain⟨a,e1,e2⟩:=h;exact⟨a,e1,e _ _ e2⟩
 |.scr ns,_,h=>by simp only[Is] at h ⊢;obtain⟨a,e1,e2⟩:=h;exact⟨a,e1,e.seq e2⟩
theorem IsL.mono (e:?FN):∀ {ds:List D} {xs:List V},IsL K H ds xs->IsL K H' ds xs
 |[],_,h=>by simp only[IsL] at h ⊢;exact h
 |d::ds,_,h=>by
  simp only[IsL] at h ⊢;obtain⟨x,r,e1,e2,e3⟩:=h;exact⟨x,r,e1,Is.mono e e2,?Eq⟩
end
theorem IsL.nil:IsL K H [] []:=by simp only[IsL]
theorem IsL.cons {d:D}{ds:?A7}{x:V}{xs:?AL}(h:Is K H d x)(t:?LD):IsL K H (d::ds) (x::xs):=by
 simp only[IsL];exact⟨x,xs,rfl,h,t⟩
theorem IsL.len:∀ {ds:List D} {xs:List V},IsL K H ds xs->xs.length=ds.length
 |[],_,h=>by simp only[IsL] at h;subst h;rfl
 |d::ds,_,h=>by
  simp only[IsL] at h;obtain⟨x,r,rfl,_,t⟩:=h;simp[IsL.len t]
theorem IsL.get:∀ {ds:List D} {xs:List V} {i:Nat} {d:D},IsL K H ds xs->ds[i]?=some d->∃ x,xs[i]?=some x/\Is K H d x
 |[],_,_,_,_,e=>by simp at e
 |d::ds,_,0,d',h,e=>by
  simp only[IsL] at h;obtain⟨x,r,rfl,h1,_⟩:=h;simp at e;subst e;exact⟨x,rfl,h1⟩
 |d::ds,_,i+1,d',h,e=>by
  simp only[IsL] at h;obtain⟨x,r,rfl,_,t⟩:=h;exact IsL.get (i:=i) t (by simpa using e)
theorem IsL.append:∀ {ds es:List D} {xs ys:List V},IsL K H ds xs->IsL K H es ys->IsL K H (ds++es) (xs++ys)
 |[],_,_,_,h,t=>by simp only[IsL] at h;subst h;exact t
 |d::ds,es,_,ys,h,t=>by
  simp only[IsL] at h;obtain⟨x,r,rfl,h1,h2⟩:=h;exact IsL.cons h1 (IsL.append h2 t)
theorem IsL.take:∀ {ds:List D} {xs:List V} (n:Nat),IsL K H ds xs->IsL K H (ds.take n) (xs.take n)
 |_,_,0,_=>by simpa using IsL.nil
 |[],_,n+1,h=>by simp only[IsL] at h;subst h;simpa using IsL.nil
 |d::ds,_,n+1,h=>by
  simp only[IsL] at h;obtain⟨x,r,rfl,h1,h2⟩:=h;exact IsL.cons h1 (IsL.take n h2)
theorem IsL.drop:∀ {ds:List D} {xs:List V} (n:Nat),IsL K H ds xs->IsL K H (ds.drop n) (xs.drop n)
 |_,_,0,h=>by simpa using h
 |[],_,n+1,h=>by simp only[IsL] at h;subst h;simpa using IsL.nil
 |d::ds,_,n+1,h=>by
  simp only[IsL] at h;obtain⟨x,r,rfl,h1,h2⟩:=h;exact IsL.drop n h2
theorem IsL.set:∀ {ds:List D} {xs:List V} (i:Nat) {d:D} {x:V},IsL K H ds xs->Is K H d x->IsL K H (ds.set i d) (xs.set i x)
 |[],_,_,_,_,h,_=>by simp only[IsL] at h;subst h;simpa using IsL.nil
 |d::ds,_,0,_,_,h,hx=>by
  simp only[IsL] at h;obtain⟨x,r,rfl,h1,h2⟩:=h;exact IsL.cons hx h2
 |d::ds,_,i+1,_,_,h,hx=>by
  simp only[IsL] at h;obtain⟨x,r,rfl,h1,h2⟩:=h;exact IsL.cons h1 (IsL.set i h2 hx)
theorem IsL.get_none {i:Nat}(h:?LD)(e:ds[i]?=none):xs[i]?=none:=by
 have:=h.len;rw[yE] at e ⊢;lia
theorem IsL.get' {i:Nat}(h:?LD)(e:xs[i]?=some x):∃ d,ds[i]?=some d/\Is K H d x:=by
 cases q:ds[i]? with
 |none=>rw[h.get_none q] at e;cases e
 |some d=>
  obtain⟨y,e1,e2⟩:=h.get q;rw[e] at e1;cases e1;exact⟨d,rfl,e2⟩
theorem IsL.of_ints:∀ {ns:List Int} {xs:List V},IsL K H ?GT xs->xs=ns.map V.int
 |[],_,h=>by simp only[ji,IsL] at h;subst h;rfl
 |n::ns,_,h=>by
  simp only[yt,IsL] at h;obtain⟨x,r,rfl,h1,h2⟩:=h;simp only[Is] at h1;rw[h1,IsL.of_ints h2];rfl
end
structure Pur (F H F' H':Hp):Prop where
 ff:Yh F F'
 fh:Yh F' H'
 hh:Yh H H'
 new:∀ b,F' b≠none->F b≠none∨H b=none
theorem Pur.refl(h:Yh F H):Pur F H F H:=⟨?AE,h,?AE,fun _ q=>?Bk⟩
theorem Pur.trans(a:Pur F H F1 H1)(b:Pur F1 H1 F2 H2):Pur F H F2 H2:=
 ⟨a.ff.trans b.ff,b.fh,a.hh.trans b.hh,fun c q=>(b.new c q).elim (fun z=>a.new c z) fun z=>.inr (a.hh.free z)⟩
theorem Pur.lay(h:Yh F H)(hp:H p=none):Pur F H (upd F p o) (upd H p o):=by
 have fp:F p=none:=h.free hp;refine⟨fun b u e=>?_,fun b u e=>?_,fun b u e=>?_,fun b q=>?_⟩
 .rw[yR (Yo e fp)];exact e
 .by_cases hb:b=p
  .subst hb;rw[yX] at e ⊢;exact e
  .rw[yR hb] at e ⊢;exact h _ _ e
 .rw[yR (Yo e hp)];exact e
 .by_cases hb:b=p
  .subst hb;exact .inr hp
  .rw[yR hb] at q;exact ?Bk
theorem Pur.layOwn(h:Yh F H)(hp:H p=none):Pur F H F (upd H p o):=by
 refine⟨?AE,fun b u e=>?_,fun b u e=>?_,fun b q=>?Bk⟩
 .rw[yR (Yo (h _ _ e) hp)];exact h _ _ e
 .rw[yR (Yo e hp)];exact e
def Sl (K:?A1)(F:Hp)(Γ:?C5)(σ:?AY):Prop:=∀ (i:Nat) (d:D),Γ[i]?=some ?D2->∃ v,σ[i]?=some ?CY/\Is K F d v
theorem Sl.mono {K:?A1}{F F':Hp}{Γ:?C5}{σ:?AY}(h:?IJ)(e:?FO):Sl K F' Γ σ:=fun i d q=>by
 obtain⟨v,h1,h2⟩:=h i d q;exact⟨v,h1,h2.mono e⟩
def tP (K:?A1)(Γ:?C5)(d:D):TE:=fun σ H Q=>∃ F,Yh F H/\Sl K F Γ σ/\∀ v H' F',Pur F H F' H'->Is K F' d v->Q v H'
def tPT (K:?A1)(Γ:?C5)(b:Bool):TT:=fun σ H Q=>∃ F,Yh F H/\Sl K F Γ σ/\∀ H' F',Pur F H F' H'->Q b H'
def tPL (K:?A1)(Γ:?C5)(ds:?A7):TA:=fun σ H Q=>∃ F,Yh F H/\Sl K F Γ σ/\∀ vs H' F',Pur F H F' H'->IsL K F' ds vs->Q vs H'
def P3 (X:Cx)(Γ:?C5)(e:Expr)(d:D):Prop:=PE X e (tP X.K Γ d)
def PT3 (X:Cx)(Γ:?C5)(e:Expr)(b:Bool):Prop:=PT X e (tPT X.K Γ b)
def PL3 (X:Cx)(Γ:?C5)(es:?AW)(ds:?A7):Prop:=PA X es (tPL X.K Γ ds)
def PF3 (X:Cx)(Γ:?C5)(e:Expr)(ds:?A7):Prop:=PE X e fun σ H Q=>∃ F,Yh F H/\Sl X.K F Γ σ/\∀ p xs H' F',Pur F H F' H'->H p=none->F' p=none->H' p=some ?Aa->IsL X.K F' ds xs->Q ?Bw H'
theorem PE.of(h:PE X e t)(i:∀ σ H Q,?vG):PE X e u:=fun pins s σ H Q I hq=>h pins s σ H Q I ?F3
theorem PT.of(h:PT X e t)(i:∀ σ H Q,?vG):PT X e u:=fun pins s σ H Q I hq=>h pins s σ H Q I ?F3
theorem PA.of(h:PA X e t)(i:∀ σ H Q,?vG):PA X e u:=fun p pins s σ H Q I hq=>h p pins s σ H Q I ?F3
section
theorem El {i:Nat}(hN:?zF)(hv:?Em)(hΓ:Γ[i]?=some ?D2)(hd:?L:=by decide)(hcd:?jO:=by decide):?G6:=
 PE.of (xb hN hv hd hcd) fun σ H Q ⟨F,fh,sl,k⟩=>by
  obtain⟨v,e,h⟩:=sl i d hΓ;exact⟨v,e,k v H F ?Ag h⟩
theorem pq (i:Nat){x:Str}(h3:Γ[i]? =some ?D2)(h1:X.N[i]? =some x:=by rfl)(h2:X.env.scope.names.lookup x=some .local:=by rfl)(hd:(x==("__debug__":Str))=false:=by decide)(hc:(x==("__classdict__":Str))=false:=by decide):?G6:=El h1 (.inl h2) h3 hd hc
theorem pqc (i:Nat){x:Str}(h3:Γ[i]? =some ?D2)(h1:X.N[i]? =some x:=by rfl)(h2:X.env.scope.names.lookup x=some .cell:=by rfl)(hd:(x==("__debug__":Str))=false:=by decide)(hc:(x==("__classdict__":Str))=false:=by decide):?G6:=El h1 (.inr (.inl h2)) h3 hd hc
theorem yB:P3 X Γ (.Constant ?Ca j pos) ?Ca:=PE.of Vy fun σ H Q ⟨F,fh,sl,k⟩=>k _ H F ?Ag (by simp only[Is])
theorem FO:P3 X Γ (.Constant (.bool i) j pos) (.bl i):=PE.of Hm fun σ H Q ⟨F,fh,sl,k⟩=>k _ H F ?Ag (by simp only[Is])
theorem X3:P3 X Γ (.Constant (.str i) j pos) (.str i):=PE.of GE fun σ H Q ⟨F,fh,sl,k⟩=>k _ H F ?Ag (by simp only[Is])
theorem rC(hg:?Ai)(hm:X.mg x=some u)(r:?EO)(hi:∀ F,Is X.K F d v)(hd:?L:=by decide):?G6:=
 PE.of (Du hg hm r hd) fun σ H Q ⟨F,fh,sl,k⟩=>k _ H F ?Ag (hi F)
theorem tP2 {K:?A1}{σ:?AY}{H:Hp}{R:V->V->Hp->Prop}(h:∃ F,Yh F H/\Sl K F Γ σ/\∀ x y H2 F2,Pur F H F2 H2->Is K F2 d x->Is K F2 d' y->R x y H2) :
  tP K Γ d σ H fun x H1=>tP K Γ d' σ H1 fun y H2=>R x y H2:=by
 obtain⟨F,fh,sl,k⟩:=h;exact⟨F,fh,sl,fun x H1 F1 p1 i1=>⟨F1,?Bj,?DH,fun y H2 F2 p2 i2=>k x y H2 F2 ?CK ?Hx i2⟩⟩
theorem rc(ho:?Jk)(ha:?Cm)(hb:?Dv)(hr:∀ x y H F Q,?xY):?Kq:=
 PE.of (uP ho ha hb) fun σ H Q ⟨F,fh,sl,k⟩=>tP2 ⟨F,fh,sl,fun x y H2 F2 p i1 i2=>hr x y H2 F2 Q p.fh i1 i2 fun v H' F' p' i=>?Ns⟩
theorem isI {K:?A1}{F:Hp}{i:Int}{v:V}(h:Is K F ?Ca v):v=.int i:=by simp only[Is] at h;exact h
theorem isS {K:?A1}{F:Hp}{i:Str}{v:V}(h:Is K F (.str i) v):v=.str i:=by simp only[Is] at h;exact h
theorem isB {K:?A1}{F:Hp}{i:Bool}{v:V}(h:Is K F (.bl i) v):v=.bl i:=by simp only[Is] at h;exact h
theorem isR {K:?A1}{F:Hp}{i v:V}(h:Is K F (.raw i) v):v=i:=by simp only[Is] at h;exact h
theorem isN {K:?A1}{F:Hp}{v:V}(h:Is K F .non v):v=.non:=by simp only[Is] at h;exact h
theorem Bx {op:Operator}{C:Int->Int->Prop}{g:Int->Int->V}{i j:Int}{d3:D}(ho:OpR X ?Lf (rI C g))(ha:?BI)(hb:?BF)(hc:C i j)(h3:∀ F,Is X.K F d3 ?BB):?Kq:=
 rc ho ha hb fun x y H F Q fh i1 i2 k=>⟨i,j,?FU,?CW,hc,?P4⟩
theorem Bt {op:Operator}{g:Int->Int->V}{i j:Int}{d3:D}(ho:OpR X ?Lf (rI0 g))(ha:?BI)(hb:?BF)(h3:∀ F,Is X.K F d3 ?BB):?Kq:=
 rc ho ha hb fun x y H F Q fh i1 i2 k=>⟨i,j,?FU,?CW,?P4⟩
theorem JH {K:?A1}{i:Int}:∀ F,Is K F ?Ca ?Ca:=fun _=>by simp only[Is]
theorem Wr {K:?A1}{i:Bool}:∀ F,Is K F (.bl i) (.bl i):=fun _=>by simp only[Is]
theorem X7 {K:?A1}{i:Str}:∀ F,Is K F (.str i) (.str i):=fun _=>by simp only[Is]
theorem ZD {K:?A1}{i:V}:∀ F,Is K F (.raw i) i:=fun _=>by simp only[Is]
theorem lK {K:?A1}:∀ F,Is K F .non .non:=fun _=>by simp only[Is]
variable {i j:Int}
theorem zf (ha:?BI)(hb:?BF):P3 X Γ ?Fm (.int (i+j)):=Bt gN ha hb JH
theorem m7 (ha:?BI)(hb:?BF):P3 X Γ (.BinOp a .Sub b pos) (.int (i - j)):=Bt E2 ha hb JH
theorem JM (ha:?BI)(hb:?BF)(h:IntMulOk i j):P3 X Γ (.BinOp a .Mult b pos) (.int (i*j)):=Bx ng ha hb h JH
theorem Va (ha:?BI)(hb:?BF)(h:0<j):P3 X Γ (.BinOp a .Mod b pos) (.int (i % j)):=Bx cn ha hb h JH
theorem Jw (py:Pyl X)(ha:?BI)(hb:?BF)(h:0<j):P3 X Γ (.BinOp a .FloorDiv b pos) (.int (i / j)):=
 Bx (sS py) ha hb ?A (fun F=>by rw[Yq _ (yN h)];exact JH F)
end
theorem h8 {K:?A1}{F:Hp}{ds:?A7}{xs:?AL}{i:Int}{d:D}(h:?Eu)(e:atI ds i=some d):∃ x,atI xs i=some x/\Is K F d x:=by
 unfold atI at e ⊢;rw[h.len];cases q:ixN ds.length i with
 |none=>rw[q] at e;cases e
 |some j=>
  rw[q] at e;exact h.get (i:=j) e
section
variable {i:Int}
theorem nr(ho:IxR X r)(ha:?Cm)(hb:?Dv)(hr:∀ x y H F Q,?xY)(hs:Vz b):P3 X Γ ?Dn d3:=
 PE.of (lR ho ha hb hs) fun σ H Q ⟨F,fh,sl,k⟩=>tP2 ⟨F,fh,sl,fun x y H2 F2 p i1 i2=>hr x y H2 F2 Q p.fh i1 i2 fun v H' F' p' i=>?Ns⟩
theorem Yr (ha:?I2)(hb:?HV)(he:atI ds i=some d)(hs:Vz b:=by exact ?yV):P3 X Γ ?Dn d:=
 nr Gz ha hb (fun x y H F Q fh i1 i2 k=>by
  simp only[Is] at i1 i2;obtain⟨p,xs,rfl,h1,h2⟩:=i1;obtain⟨v,e1,e2⟩:=h8 h2 he;exact⟨p,xs,i,v,rfl,i2,jE fh h1,e1,k v H F ?Ag e2⟩) hs
theorem JL (ha:?CJ)(hb:?HV)(he:atI ds i=some d)(hs:Vz b:=by exact ?yV):P3 X Γ ?Dn d:=
 nr uH ha hb (fun x y H F Q fh i1 i2 k=>by
  simp only[Is] at i1 i2;obtain⟨p,xs,rfl,h1,h2⟩:=i1;obtain⟨v,e1,e2⟩:=h8 h2 he;exact⟨p,xs,i,v,rfl,i2,.inl (ZR fh h1),e1,k v H F ?Ag e2⟩) hs
theorem Hr {c:Nat}(ha:?Fo)(hb:?HV)(hz:x.length<=sizeLine)(he:atI x.cps.toList i=some c)(hs:Vz b:=by exact ?yV):P3 X Γ ?Dn (.str ?zK):=
 nr FQ ha hb (fun x' y H F Q fh i1 i2 k=>by
  simp only[Is] at i1 i2;exact⟨x,i,c,i1,i2,hz,he,k _ H F ?Ag (X7 F)⟩) hs
theorem yr:PL3 X Γ [] []:=PA.of Vs fun σ H Q ⟨F,fh,sl,k⟩=>k [] H F ?Ag IsL.nil
theorem yc (ha:?Cl)(hr:?G1)(hs:?T:=by rfl):PL3 X Γ (e::es) (d::ds):=
 PA.of (zY ha hr hs) fun σ H Q ⟨F,fh,sl,k⟩=>⟨F,fh,sl,fun x H1 F1 p1 i1=>⟨F1,?Bj,?DH,fun xs H2 F2 p2 i2=>k (x::xs) H2 F2 ?CK (IsL.cons ?Hx i2)⟩⟩
theorem QO(h:?G1)(hz:?xL:=by (simp only[yw,qb];decide)):P3 X Γ ?KN ?CA:=
 PE.of (bg h) fun σ H Q ⟨F,fh,sl,k⟩=>⟨F,fh,sl,fun xs H1 F1 p1 i1=>⟨?xE,fun p hp=>k _ _ _ (p1.trans (Pur.lay p1.fh hp)) (by
  simp only[Is];exact⟨p,xs,rfl,?Dt,i1.mono (Pur.lay p1.fh hp).ff⟩)⟩⟩
theorem zW (h:?G1)(hz:?xL:=by (simp only[yw,qb];decide)):PF3 X Γ ?IH ds:=
 PE.of (lA h) fun σ H Q ⟨F,fh,sl,k⟩=>⟨F,fh,sl,fun xs H1 F1 p1 i1=>⟨?xE,fun p hp=>k p xs _ F1 (p1.trans (Pur.layOwn p1.fh hp)) (p1.hh.free hp) (p1.fh.free hp) yX i1⟩⟩
theorem PF3.p (h:?LM):P3 X Γ e ?BP:=PE.of h fun σ H Q ⟨F,fh,sl,k⟩=>⟨F,fh,sl,fun p xs H' F' pu hp fp e i=>by
 have w:Yh F' (upd F' p (.lst xs)):=fun b u q=>by rw[yR (Yo q fp)];exact q
 have wf:Yh (upd F' p (.lst xs)) H':=fun b u q=>by
  by_cases hb:b=p
  .subst hb;rw[yX] at q;cases q;exact e
  .rw[yR hb] at q;exact ?LZ
 have w2:Pur F H (upd F' p (.lst xs)) H':=by
  refine⟨?L8,wf,pu.hh,fun b q=>?_⟩;by_cases hb:b=p
  .subst hb;exact .inr hp
  .rw[yR hb] at q;exact ?Lv
 exact k _ _ _ w2 (by simp only[Is];exact⟨p,xs,rfl,?EK,i.mono w⟩)⟩
theorem eR (h:?G1)(hz:?xL:=by (simp only[yw,qb];decide)):P3 X Γ ?IH ?BP:=(zW h hz).p
end
mutual
noncomputable def qD:D->D->Bool
 |.non,.non=>true
 |.bl a,.bl b=>a==b
 |.int a,.int b=>a==b
 |.str a,.str b=>a==b
 |.tup a,.tup b=>ZV a b
 |.lst a,.lst b=>ZV a b
 |_,_=>false
noncomputable def ZV:List D->List D->Bool
 |[],[]=>true
 |a::as,b::bs=>qD a b&&ZV as bs
 |_,_=>false
end
mutual
noncomputable def pln:D->Bool
 |.non=>true
 |.bl _=>true
 |.int _=>true
 |.str _=>true
 |.tup a=>vM a
 |.lst a=>vM a
 |_=>false
noncomputable def vM:List D->Bool
 |[]=>true
 |a::as=>pln a&&vM as
end
mutual
noncomputable def kin:D->D->Bool
 |.non,.non=>true
 |.bl _,.bl _=>true
 |.int _,.int _=>true
 |.str _,.str _=>true
 |.tup a,.tup b=>J1 a b
 |.lst a,.lst b=>J1 a b
 |_,_=>false
noncomputable def J1:List D->List D->Bool
 |a::as,b::bs=>kin a b&&J1 as bs
 |_,_=>true
end
mutual
noncomputable def dep:D->Nat
 |.tup a=>Z2 a+1
 |.lst a=>Z2 a+1
 |_=>0
noncomputable def Z2:List D->Nat
 |[]=>0
 |a::as=>max (dep a) (Z2 as)
end
theorem vI(h:kin d e=true):(d=.non/\e=.non)∨(∃ a b,d=.bl a/\e=.bl b)∨(∃ a b,d=.int a/\e=.int b)∨(∃ a b,d=.str a/\e=.str b)∨(∃ a b,d=.tup a/\e=.tup b/\J1 a b=true)∨(∃ a b,d=.lst a/\e=.lst b/\J1 a b=true):=by
 rw[kin.eq_def] at h;split at h
 .exact .inl ?DR
 .exact ?Kc
 .exact .inr ?Kc
 .exact .inr (.inr ?Kc)
 .exact .inr (.inr (.inr (.inr (.inl ⟨_,_,rfl,rfl,h⟩))))
 .exact .inr (.inr (.inr (.inr (.inr ⟨_,_,rfl,rfl,h⟩))))
 .exact absurd h ?B
mutual
theorem J2:∀ {d:D},pln d=true->qD d d=true
 |.non,_=>by simp[qD]
 |.bl _,_=>by simp[qD]
 |.int _,_=>by simp[qD]
 |.str _,_=>by simp[qD]
 |.tup a,h=>by rw[qD];rw[pln] at h;exact Um h
 |.lst a,h=>by rw[qD];rw[pln] at h;exact Um h
 |.raw _,h=>by simp[pln] at h
 |.dk _ _,h=>by simp[pln] at h
 |.dt _ _,h=>by simp[pln] at h
 |.obj _ _ _,h=>by simp[pln] at h
 |.exc _,h=>by simp[pln] at h
 |.scr _,h=>by simp[pln] at h
theorem Um:∀ {d:List D},vM d=true->ZV d d=true
 |[],_=>by simp[ZV]
 |a::as,h=>by
  rw[vM,Yw] at h;rw[ZV,J2 h.1,Um h.2];rfl
end
mutual
theorem Wi:∀ {d e:D},qD d e=true->d=e
 |.non,e,h=>by cases e <;> simp[qD] at h ⊢
 |.bl _,e,h=>by cases e <;> simp[qD] at h ⊢;exact h
 |.int _,e,h=>by cases e <;> simp[qD] at h ⊢;exact h
 |.str _,e,h=>by cases e <;> simp[qD] at h ⊢;exact h
 |.tup a,e,h=>by cases e <;> simp only[qD,Y9] at h;rw[cE h]
 |.lst a,e,h=>by cases e <;> simp only[qD,Y9] at h;rw[cE h]
 |.raw _,e,h=>by cases e <;> simp[qD] at h
 |.dk _ _,e,h=>by cases e <;> simp[qD] at h
 |.dt _ _,e,h=>by cases e <;> simp[qD] at h
 |.obj _ _ _,e,h=>by cases e <;> simp[qD] at h
 |.exc _,e,h=>by cases e <;> simp[qD] at h
 |.scr _,e,h=>by cases e <;> simp[qD] at h
theorem cE:∀ {d e:List D},ZV d e=true->d=e
 |[],e,h=>by cases e <;> simp[ZV] at h ⊢
 |a::as,e,h=>by
  cases e with
  |nil=>simp[ZV] at h
  |cons b bs=>
   rw[ZV,Yw] at h;rw[Wi h.1,cE h.2]
end
theorem aX(h:d≠e):qD d e=false:=by
 cases q:qD d e with
 |false=>rfl
 |true=>exact absurd (Wi q) h
theorem ur:∀ (ds es:List D),ds.length=es.length->((List.range ds.length).all fun j=>qD (ds.getD j .non) (es.getD j .non))=ZV ds es
 |[],[],_=>by simp[ZV]
 |[],_::_,h=>by simp at h
 |_::_,[],h=>by simp at h
 |a::as,b::bs,h=>by
  have ih:=ur as bs (by simpa using h);rw[ZV,←ih,yw,List.range_succ_eq_map,List.all_cons,List.all_map];rfl
theorem uE:∀ {ds es:List D},ds.length≠es.length->ZV ds es=false
 |[],[],h=>absurd rfl h
 |[],_::_,_=>by simp[ZV]
 |_::_,[],_=>by simp[ZV]
 |a::as,b::bs,h=>by
  rw[ZV,uE (ds:=as) (es:=bs) (fun z=>h (by simp[z])),Bool.and_false]
theorem WX:∀ {ds es:List D} {i:Nat} {d e:D},J1 ds es=true->ds[i]?=some d->es[i]?=some e->kin d e=true
 |[],_,_,_,_,_,h,_=>by simp at h
 |_::_,[],_,_,_,_,_,h=>by simp at h
 |a::as,b::bs,0,d,e,h,h1,h2=>by
  simp at h1 h2;subst h1 h2;rw[J1,Yw] at h;exact h.1
 |a::as,b::bs,i+1,d,e,h,h1,h2=>by
  rw[J1,Yw] at h;exact WX (i:=i) h.2 (by simpa using h1) (by simpa using h2)
theorem c8:∀ {ds:List D} {i:Nat} {d:D},ds[i]?=some d->dep d<=Z2 ds
 |[],_,_,h=>by simp at h
 |a::as,0,d,h=>by simp at h;subst h;rw[Z2];exact Nat.le_max_left _ _
 |a::as,i+1,d,h=>by
  rw[Z2];exact yU (c8 (i:=i) (by simpa using h)) (Nat.le_max_right _ _)
section
variable {X:Cx}{pins:?Q}{σ:?AY}{H:Hp}{s:?AI}
theorem Is.same (I:?A8):∀ (n:Nat) {v:V} {d e:D},dep d<=n->kin d e=true->Is X.K H d v->Is X.K H e v->d=e:=by
  intro n
  induction n with
  |zero=>
    intro v d e hn hk h h';rcases vI hk with ⟨rfl,rfl⟩|⟨_,_,rfl,rfl⟩|⟨_,_,rfl,rfl⟩|⟨_,_,rfl,rfl⟩|⟨_,_,rfl,rfl,hk⟩|⟨_,_,rfl,rfl,hk⟩ <;> simp only[Is] at h h' <;> first
      |rfl
      | (rw[h] at h';injection h' with z;rw[z];done)
      | (rw[dep] at hn;lia)
  |succ n ih=>
    intro v d e hn hk h h';have go:∀ {ds es:List D} {xs:List V},Z2 ds<=n->J1 ds es=true->IsL X.K H ds xs->IsL X.K H es xs->ds=es:=by
      intro ds es xs hd hks h1 h2;have l1:=h1.len;have l2:=h2.len;refine Qw fun i=>?_;cases q:xs[i]? with
      |none=>
        have z:xs.length<=i:=yE.mp q;rw[yE.mpr (by lia),yE.mpr ?A]
      |some v=>
        obtain⟨d,e1,i1⟩:=h1.get' q;obtain⟨e,e2,i2⟩:=h2.get' q;rw[e1,e2,ih (yU (c8 e1) hd) (WX hks e1 e2) i1 i2]
    rcases vI hk with ⟨rfl,rfl⟩|⟨_,_,rfl,rfl⟩|⟨_,_,rfl,rfl⟩|⟨_,_,rfl,rfl⟩|⟨_,_,rfl,rfl,hk⟩|⟨_,_,rfl,rfl,hk⟩ <;> simp only[Is] at h h' <;> first
      |rfl
      | (rw[h] at h';injection h' with z;rw[z];done)
      | (rw[dep] at hn
         obtain⟨a,xs,rfl,s1,i1⟩:=h;obtain⟨a',ys,e',s2,i2⟩:=h';cases e'
         first
         | (cases I.tuple_inj s1 s2;rw[go (by lia) hk i1 i2];done)
         | (cases I.list_inj (.inl s1) (.inl s2);rw[go (by lia) hk i1 i2];done))
def uK (ds es:?A7)(j:Nat):Bool:=qD (ds.getD j .non) (es.getD j .non)
theorem uD(r1:?Is)(r2:qc ys vs)(h1:?Dp)(h2:?En)
  (hk:?vN) (hn:Z2 ds<=n)
  (ih:∀ (x y:V) (d e:D) (u v:Value),dep d<=n->Is X.K H d x->Is X.K H e y->kin d e=true->YV x u->YV y v->SeqAt.EqAt A s u v (qD d e)) :
  ∀ j (q1:j<us.toArray.size) (q2:j<vs.toArray.size),SeqAt.EqAt A s us.toArray[j] vs.toArray[j] (uK ds es j):=by
 intro j q1 q2;have e1:=r1.length;have e2:=r2.length;have l1:=h1.len;have l2:=h2.len;have p1:j<us.length:=by simpa using q1
 have p2:j<vs.length:=by simpa using q2
 have x1:xs[j]?=some (xs[j]'(by lia)):=yl _;have y1:ys[j]?=some (ys[j]'(by lia)):=yl _;obtain⟨d,d1,i1⟩:=h1.get' x1;obtain⟨e,c1,i2⟩:=h2.get' y1;obtain⟨u,hu,ru⟩:=r1.get x1;obtain⟨v,hv,rv⟩:=r2.get y1;have z1:us.toArray[j]=u:=by
  have:us[j]?=some (us[j]'p1):=yl _;rw[hu] at this;simpa using (Option.some.inj this).symm
 have z2:vs.toArray[j]=v:=by
  have:vs[j]?=some (vs[j]'p2):=yl _;rw[hv] at this;simpa using (Option.some.inj this).symm
 rw[z1,z2];unfold uK;rw[yW,yW,d1,c1];exact ih _ _ _ _ u v (yU (c8 d1) hn) i1 i2 (WX hk d1 c1) ru rv
theorem BU(r1:?Is)(r2:qc ys vs)(h1:?Dp)(h2:?En) :
  ((?Ma).all (uK ds es)&&us.toArray.size==vs.toArray.size)=ZV ds es:=by
 have e1:=r1.length;have e2:=r2.length;have l1:=h1.len;have l2:=h2.len;simp only[yY];by_cases hl:us.length=vs.length
 .rw[←hl,Nat.min_self,beq_self_eq_true,Bool.and_true,←e1,l1];exact ?LY
 .rw[uE (by lia),show(us.length==vs.length)=false by simpa using hl,Bool.and_false]
theorem mW(I:?A8)(hx:?Hq)(hy:SqT X.K H b ys)(h1:?Dp)(h2:?En)(hu:?yX)
  (hk:?vN) (hn:Z2 ds<=n)
  (ih:∀ (x y:V) (d e:D) (u v:Value),?vR):?N0:=by
 obtain⟨us,r1,t1,_⟩:=I.tuple hx;obtain⟨vs,r2,t2,_⟩:=I.tuple hy;have z:=SeqAt.RcAt.tuples (show s.heap.IsTuple a us.toArray from t1) (show s.heap.IsTuple b vs.toArray from t2) hu ?H8;rw[BU r1 r2 h1 h2] at z;exact z
theorem ml(I:?A8)(hx:?Hr)(hy:SqL X.K H b ys)(h1:?Dp)(h2:?En)(hu:?yX)
  (hk:?vN) (hn:Z2 ds<=n)
  (ih:∀ (x y:V) (d e:D) (u v:Value),?vR):?N0:=by
 obtain⟨us,r1,t1,_⟩:=I.list hx;obtain⟨vs,r2,t2,_⟩:=I.list hy;have e1:=r1.length;have e2:=r2.length;have l1:=h1.len;have l2:=h2.len;by_cases hl:us.length=vs.length
 .have z:=SeqAt.RcAt.lists t1.isList t2.isList (by simpa using hl) hu ?H8;have q:(List.range us.toArray.size).all (uK ds es)=ZV ds es:=by
   simp only[yY];rw[←e1,l1];exact ?LY
  rw[q] at z;exact z
 .rw[uE (by lia)];exact SeqAt.RcAt.lists_lengths t1.isList t2.isList (by simpa using hl) hu
theorem DQ(I:?A8)(hx:?Hq)(hy:SqT X.K H b ys)(h1:?Dp)(h2:?En)(hu:?yX)
  (hk:?vN) (hn:Z2 ds<=n)
  (ih:∀ (x y:V) (d e:D) (u v:Value),?vR):SeqAt.RcNeAt A s ?AB ?Be (!ZV ds es):=by
 obtain⟨us,r1,t1,_⟩:=I.tuple hx;obtain⟨vs,r2,t2,_⟩:=I.tuple hy;have z:=SeqAt.RcNeAt.tuples (show s.heap.IsTuple a us.toArray from t1) (show s.heap.IsTuple b vs.toArray from t2) hu ?H8;rw[BU r1 r2 h1 h2] at z;exact z
theorem C2(I:?A8)(hx:?Hr)(hy:SqL X.K H b ys)(h1:?Dp)(h2:?En)(hu:?yX)
  (hk:?vN) (hn:Z2 ds<=n)
  (ih:∀ (x y:V) (d e:D) (u v:Value),?vR):SeqAt.RcNeAt A s ?AB ?Be (!ZV ds es):=by
 obtain⟨us,r1,t1,_⟩:=I.list hx;obtain⟨vs,r2,t2,_⟩:=I.list hy;have e1:=r1.length;have e2:=r2.length;have l1:=h1.len;have l2:=h2.len;by_cases hl:us.length=vs.length
 .have z:=SeqAt.RcNeAt.lists t1.isList t2.isList (by simpa using hl) hu ?H8;have q:(List.range us.toArray.size).all (uK ds es)=ZV ds es:=by
   simp only[yY];rw[←e1,l1];exact ?LY
  rw[q] at z;exact z
 .rw[uE (by lia)];exact SeqAt.RcNeAt.lists_lengths t1.isList t2.isList (by simpa using hl) hu
theorem gH:∀ (n:Nat) {d e:D},dep d<=n->kin d e=true->d=e->pln d=true:=by
 intro n
 induction n with
 |zero=>intro d e hn hk he;subst he;cases d <;> simp[kin] at hk <;> first|(simp[pln];done)|(rw[dep] at hn;lia)
 |succ n ih=>
  intro d e hn hk he;subst he;have go:∀ {ds:List D},Z2 ds<=n->J1 ds ds=true->vM ds=true:=by
   intro ds
   induction ds with
   |nil=>intro _ _;simp[vM]
   |cons a as ih2=>
    intro hd hks;rw[Z2] at hd;rw[J1,Yw] at hks;rw[vM,ih ?A hks.1 rfl,ih2 ?A hks.2];rfl
  cases d <;> simp[kin] at hk <;> first
   | (simp[pln];done)
   | (rw[dep] at hn;rw[pln];exact go ?A hk)
theorem lx (I:?A8):∀ (n:Nat) (A:Around),A.units+n<cLine->∀ (x y:V) (d e:D) (u v:Value),dep d<=n->Is X.K H d x->Is X.K H e y->kin d e=true->YV x u->YV y v->SeqAt.EqAt A s u v (qD d e):=by
  intro n
  induction n with
  |zero=>
    intro A hA x y d e u v hn hx hy hk rx ry;rcases vI hk with ⟨rfl,rfl⟩|⟨_,_,rfl,rfl⟩|⟨_,_,rfl,rfl⟩|⟨_,_,rfl,rfl⟩|⟨_,_,rfl,rfl,hk⟩|⟨_,_,rfl,rfl,hk⟩ <;> simp only[Is] at hx hy <;> first
      | (subst hx hy;cases rx;cases ry;rw[qD];exact ?Eb)
      | (subst hx hy;cases rx;cases ry;rw[qD];exact ?Nw)
      | (subst hx hy;obtain⟨t,rfl⟩:=rx;obtain⟨t',rfl⟩:=ry;rw[qD];exact ?NZ)
      | (subst hx hy;obtain⟨t,rfl⟩:=rx;obtain⟨t',rfl⟩:=ry;rw[qD];exact ?NU)
      | (rw[dep] at hn;lia)
  |succ n ih=>
    intro A hA x y d e u v hn hx hy hk rx ry;have hu:A.units<cLine:=by lia
    have hA':A.in1.units+n<cLine:=by
      show A.units+1+n<cLine;lia
    by_cases hxy:d=e/\x=y
    . obtain⟨rfl,rfl⟩:=hxy;have hp:=gH (n+1) hn hk rfl;rw[J2 hp];cases d <;> simp[kin] at hk <;> simp only[Is] at hx <;> first
        | (subst hx;cases rx;cases ry;exact ?Eb)
        | (subst hx;obtain⟨t,rfl⟩:=rx;obtain⟨t',rfl⟩:=ry;have z:=SeqAt.EqAt.int_int (A:=A) (s:=s) (by assumption) t (by assumption) t';simpa using z)
        | (subst hx;rename_i i;obtain⟨t,rfl⟩:=rx;obtain⟨t',rfl⟩:=ry;have z:=SeqAt.EqAt.int_int (A:=A) (s:=s) i t i t';simpa using z)
        | (subst hx;rename_i i;obtain⟨t,rfl⟩:=rx;obtain⟨t',rfl⟩:=ry;have z:=SeqAt.EqAt.str_str (A:=A) (s:=s) i t i t';simpa using z)
        | (obtain⟨a,xs,rfl,_,_⟩:=hx;cases rx;cases ry;exact ?Eb)
    . have key:=fun (x y:V) (d e:D) (u v:Value) p q r s' t w=>ih A.in1 hA' x y d e u v p q r s' t w;have sm:=fun (h:x=y)=>Is.same I (n+1) hn hk hx (h▸hy);rcases vI hk with ⟨rfl,rfl⟩|⟨_,_,rfl,rfl⟩|⟨_,_,rfl,rfl⟩|⟨_,_,rfl,rfl⟩|⟨_,_,rfl,rfl,hk⟩|⟨_,_,rfl,rfl,hk⟩ <;> simp only[Is] at hx hy <;> first
        | (subst hx hy;cases rx;cases ry;rw[qD];exact ?Eb)
        | (subst hx hy;cases rx;cases ry;rw[qD];exact ?Nw)
        | (subst hx hy;obtain⟨t,rfl⟩:=rx;obtain⟨t',rfl⟩:=ry;rw[qD];exact ?NZ)
        | (subst hx hy;obtain⟨t,rfl⟩:=rx;obtain⟨t',rfl⟩:=ry;rw[qD];exact ?NU)
        | (rw[dep] at hn
           obtain⟨a,xs,rfl,s1,i1⟩:=hx;obtain⟨b,ys,rfl,s2,i2⟩:=hy;cases rx;cases ry;have hab:a≠b:=fun z=>hxy ⟨sm (by rw[z]),by rw[z]⟩;rw[qD]
           first
           |exact SeqAt.EqAt.of_refs hab (mW I s1 s2 i1 i2 hu hk ?A key)
           |exact SeqAt.EqAt.of_refs hab (ml I (.inl s1) (.inl s2) i1 i2 hu hk ?A key))
end
def Ik (K:?A1)(neg:Bool):R2:=fun x y H Q=>∃ d e,Is K H d x/\Is K H e y/\kin d e=true/\dep d<=60/\Q (.bl (if neg then !qD d e else qD d e)) H
section
theorem BB (hu:?O):OpR X (compareOp .Eq) (Ik X.K false):=by
  intro pins s σ H x y v u Q I rx ry h;obtain⟨d,e,h1,h2,hk,hn,q⟩:=h;have hu0:X.A.units<cLine:=by lia
  have key:=fun (x y:V) (d e:D) (u v:Value) p q r s' t w=>lx (s:=s) I 60 X.A.in1 ?tF x y d e u v p q r s' t w;have sc:B8 x y=true->(decide (x=y))=qD d e->wpAny (model X.prog X.w) X.A (compareOp .Eq v u) (EP X pins σ Q) X.xe s:=fun hs hb=>
    sP pins s σ H x y v u Q I rx ry ⟨hs,by rw[hb];exact q⟩
  rcases vI hk with ⟨rfl,rfl⟩|⟨_,_,rfl,rfl⟩|⟨_,_,rfl,rfl⟩|⟨_,_,rfl,rfl⟩|⟨_,_,rfl,rfl,hk⟩|⟨_,_,rfl,rfl,hk⟩ <;> simp only[Is] at h1 h2 <;> first
    | (subst h1 h2;exact sc rfl (by first|(simp[qD];done)|(rw[qD,YG];simp)))
    | (rw[dep] at hn
       obtain⟨a,xs,rfl,s1,i1⟩:=h1;obtain⟨b,ys,rfl,s2,i2⟩:=h2;cases rx;cases ry;simp only[qD,Y9,if_false] at q
       first
       |exact mW (A:=X.A) I s1 s2 i1 i2 hu0 hk ?A key X.prog X.w X.xe _ ?HF
       |exact ml (A:=X.A) I (.inl s1) (.inl s2) i1 i2 hu0 hk ?A key X.prog X.w X.xe _ ?HF)
theorem Gy (hu:?O):OpR X (compareOp .NotEq) (Ik X.K true):=by
  intro pins s σ H x y v u Q I rx ry h;obtain⟨d,e,h1,h2,hk,hn,q⟩:=h;have hu0:X.A.units<cLine:=by lia
  have key:=fun (x y:V) (d e:D) (u v:Value) p q r s' t w=>lx (s:=s) I 60 X.A.in1 ?tF x y d e u v p q r s' t w;have sc:B8 x y=true->(decide (x=y))=qD d e->wpAny (model X.prog X.w) X.A (compareOp .NotEq v u) (EP X pins σ Q) X.xe s:=fun hs hb=>
    Hf pins s σ H x y v u Q I rx ry ⟨hs,by rw[hb];exact q⟩
  rcases vI hk with ⟨rfl,rfl⟩|⟨_,_,rfl,rfl⟩|⟨_,_,rfl,rfl⟩|⟨_,_,rfl,rfl⟩|⟨_,_,rfl,rfl,hk⟩|⟨_,_,rfl,rfl,hk⟩ <;> simp only[Is] at h1 h2 <;> first
    | (subst h1 h2;exact sc rfl (by first|(simp[qD];done)|(rw[qD,YG];simp)))
    | (rw[dep] at hn
       obtain⟨a,xs,rfl,s1,i1⟩:=h1;obtain⟨b,ys,rfl,s2,i2⟩:=h2;cases rx;cases ry;simp only[qD,if_true] at q
       first
       |exact DQ (A:=X.A) I s1 s2 i1 i2 hu0 hk ?A key X.prog X.w X.xe _ ?HF
       |exact C2 (A:=X.A) I (.inl s1) (.inl s2) i1 i2 hu0 hk ?A key X.prog X.w X.xe _ ?HF)
end
def C3 (X:Cx)(Γ:?C5)(a:Expr)(op:CmpOp)(b:Expr)(k:Bool):Prop:=∃ (r:R2) (ta tb:TE),OpR X ?LQ r/\PE X a ta/\PE X b tb/\
 ∀ (σ:L2.St) (H:Hp) (Q:VK),(∃ F,Yh F H/\Sl X.K F Γ σ/\∀ H' F',Pur F H F' H'->Q (.bl k) H')->tOp r ta tb σ H Q
section
theorem kC (h:?Hh)(hm:?qJ:=by first|exact UD _|with_unfolding_all rfl):P3 X Γ ?jR (.bl k):=by
 obtain⟨r,ta,tb,ho,ha,hb,q⟩:=h;exact PE.of (nB ho ha hb hm) fun σ H Q ⟨F,fh,sl,kk⟩=>q σ H Q ⟨F,fh,sl,fun H' F' p=>kk _ H' F' p (Wr _)⟩
theorem qI (h:?Hh)(hm:?qJ:=by first|exact UD _|with_unfolding_all rfl):PT3 X Γ ?jR k:=by
 obtain⟨r,ta,tb,ho,ha,hb,q⟩:=h;exact PT.of (Wg ho ha hb hm) fun σ H Q ⟨F,fh,sl,kk⟩=>q σ H _ ⟨F,fh,sl,fun H' F' p=>⟨k,rfl,kk H' F' p⟩⟩
theorem c_R(ho:?EY)(ha:?Cm)(hb:?Dv)(hr:∀ x y H F Q,?uF):?Hh:=
 ⟨r,_,_,ho,ha,hb,fun σ H Q ⟨F,fh,sl,q⟩=>tP2 ⟨F,fh,sl,fun x y H2 F2 p i1 i2=>hr x y H2 F2 Q p.fh i1 i2 (q H2 F2 p)⟩⟩
variable {i j:Int}
theorem c_I {g:Int->Int->Bool}(ho:OpR X ?LQ (rI0 fun i j=>.bl ?BB))(ha:?BI)(hb:?BF):C3 X Γ a op b ?BB:=
 c_R ho ha hb fun x y H F Q fh i1 i2 q=>⟨i,j,?FU,?CW,q⟩
theorem oU (ha:?BI)(hb:?BF):C3 X Γ a .Lt b (decide (i<j)):=c_I GP ha hb
theorem fz (ha:?BI)(hb:?BF):C3 X Γ a .Gt b (decide (j<i)):=c_I Eg ha hb
theorem KQ (ha:?BI)(hb:?BF):C3 X Γ a .Eq b (decide (i=j)):=
 c_R sP ha hb fun x y H F Q fh i1 i2 q=>by
  cases isI i1;cases isI i2;exact⟨rfl,by simpa only[V.int.injEq] using q⟩
theorem XV {i j:Str}(ha:P3 X Γ a (.str i))(hb:P3 X Γ b (.str j)):C3 X Γ a .Eq b (decide (i=j)):=
 c_R sP ha hb fun x y H F Q fh i1 i2 q=>by
  cases isS i1;cases isS i2;exact⟨rfl,by simpa only[V.str.injEq] using q⟩
theorem Xq (hu:?O)(ha:?Cm)(hb:?Dv)(hk:kin d d'=true)(hd:dep d<=60):C3 X Γ a .Eq b (qD d d'):=
 c_R (BB hu) ha hb fun x y H F Q fh i1 i2 q=>?Mj
theorem Xn (hu:?O)(ha:?Cm)(hb:?Dv)(hk:kin d d'=true)(hd:dep d<=60):C3 X Γ a .NotEq b (!qD d d'):=
 c_R (Gy hu) ha hb fun x y H F Q fh i1 i2 q=>?Mj
theorem vF(h:P3 X Γ e (.bl k))(he:∀ whole,isTrue e X.env whole=(do let v ←whole;standAt e.pos;holding [v] (truthy v)):=by intro _;rfl):?IF:=
 PT.of (ES h he) fun σ H Q ⟨F,fh,sl,q⟩=>⟨F,fh,sl,fun v H' F' p i=>⟨k,isB i,?Id⟩⟩
theorem eA (h:?GC):PT3 X Γ (.UnaryOp .Not a pos) (!k):=PT.of (ET h) fun σ H Q ⟨F,fh,sl,q⟩=>⟨F,fh,sl,q⟩
def PW3 (X:Cx)(Γ:?C5)(e:Expr)(k:Bool):Prop:=PW X e (tPT X.K Γ k)
theorem PW.of {X:Cx}(h:PW X e t)(i:∀ σ H Q,?vG):PW X e u:=fun w pins s σ H Q I hq=>h w pins s σ H Q I ?F3
theorem PW3.t(h:PW3 X Γ e k):?IF:=PW.pt h
theorem wU (h:?GC):PW3 X Γ (.BoolOp .And [a] pos) k:=CZ h
theorem bA (h:?GC):PW3 X Γ (.BoolOp .Or [a] pos) k:=Gh h
theorem Ed:PW X e fun _ _ _=>False:=fun _ _ _ _ _ _ _ h=>h.elim
theorem mR:PE X e fun _ _ _=>False:=fun _ _ _ _ _ _ h=>h.elim
theorem dc (ha:?GC)(hb:k=true->PW3 X Γ ?kY k'):PW3 X Γ ?kT (k&&k'):=by
 cases k with
 |true=>exact PW.of (Ar ha (hb rfl)) fun σ H Q ⟨F,fh,sl,q⟩=>⟨F,fh,sl,fun H' F' p=>by dsimp only;rw[yf rfl];exact⟨F',p.fh,?LI,fun H2 F2 p2=>?Oc⟩⟩
 |false=>exact PW.of (Ar ha Ed) fun σ H Q ⟨F,fh,sl,q⟩=>⟨F,fh,sl,fun H' F' p=>by dsimp only;rw[ye yV];exact ?Id⟩
theorem eg (ha:?GC)(hb:k=false->PW3 X Γ (.BoolOp .Or (b::rest) pos) k'):PW3 X Γ (.BoolOp .Or (a::b::rest) pos) (k||k'):=by
 cases k with
 |false=>exact PW.of (Eo ha (hb rfl)) fun σ H Q ⟨F,fh,sl,q⟩=>⟨F,fh,sl,fun H' F' p=>by dsimp only;rw[ye yV];exact⟨F',p.fh,?LI,fun H2 F2 p2=>?Oc⟩⟩
 |true=>exact PW.of (Eo ha Ed) fun σ H Q ⟨F,fh,sl,q⟩=>⟨F,fh,sl,fun H' F' p=>by dsimp only;rw[yf rfl];exact ?Id⟩
theorem aL {op:BoolOp}(h:?Cm):P3 X Γ (.BoolOp op [a] pos) d:=Fp h
theorem XR (ha:?PY)(hb:k=true->P3 X Γ ?kY (.bl k')):P3 X Γ ?kT (.bl (k&&k')):=by
 cases k with
 |true=>exact PE.of (tV ha (hb rfl)) fun σ H Q ⟨F,fh,sl,q⟩=>⟨F,fh,sl,fun v H' F' p i=>⟨true,isB i,by rw[yf rfl];exact ?vT⟩⟩
 |false=>exact PE.of (tV ha mR) fun σ H Q ⟨F,fh,sl,q⟩=>⟨F,fh,sl,fun v H' F' p i=>⟨?AN,isB i,by dsimp only;rw[ye yV];exact ?Oh⟩⟩
theorem Hc (ha:?PY)(hb:k=false->P3 X Γ (.BoolOp .Or (b::rest) pos) (.bl k')):P3 X Γ (.BoolOp .Or (a::b::rest) pos) (.bl (k||k')):=by
 cases k with
 |false=>exact PE.of (Ej ha (hb rfl)) fun σ H Q ⟨F,fh,sl,q⟩=>⟨F,fh,sl,fun v H' F' p i=>⟨?AN,isB i,by rw[ye yV];exact ?vT⟩⟩
 |true=>exact PE.of (Ej ha mR) fun σ H Q ⟨F,fh,sl,q⟩=>⟨F,fh,sl,fun v H' F' p i=>⟨true,isB i,by dsimp only;rw[yf rfl];exact ?Oh⟩⟩
theorem mU (hc:?GB)(ha:k=true->P3 X Γ a d)(hb:k=false->P3 X Γ b d):P3 X Γ (.IfExp c a b pos) d:=by
 cases k with
 |true=>exact PE.of (fi hc (ha rfl) mR) fun σ H Q ⟨F,fh,sl,q⟩=>⟨F,fh,sl,fun H' F' p=>by dsimp only;rw[yf rfl];exact ?vT⟩
 |false=>exact PE.of (fi hc mR (hb rfl)) fun σ H Q ⟨F,fh,sl,q⟩=>⟨F,fh,sl,fun H' F' p=>by dsimp only;rw[ye yV];exact ?vT⟩
end
def spP (K:?A1)(n:Nat)(C:?H):Sp:=fun vs H Q _=>∃ ds d F,C ds d/\ds.length=n/\Yh F H/\IsL K F ds vs/\∀ v H' F',Pur F H F' H'->Is K F' d v->Q v H'
theorem spP.len {K:?A1}{n:Nat}{C:?H}{vs:?AL}{H:Hp}{Q:VK}{E:XK}(h:spP K n C vs H Q E):?wI:=by
 obtain⟨ds,d,F,_,l,_,i,_⟩:=h;rw[i.len,l]
section
theorem Yp (o:?MU)(hr:?Am)(hg:?Ai)(ha:?yT)(hC:C ds d)(hn:ds.length=n:=by rfl)(hdb:?L:=by decide)
  (he:?T:=by rfl) (hpl:?zA:=by rfl):P3 X Γ ?yP d:=
 PE.of (wg o hr hg ha hdb he hpl) fun σ H Q ⟨F,fh,sl,q⟩=>⟨F,fh,sl,fun vs H' F' pu i=>by
  dsimp only;rw[yM];exact⟨ds,d,F',hC,hn,pu.fh,i,fun v H2 F2 p2 i2=>q v H2 F2 ?IR i2⟩⟩
theorem ZT {id:?Bv}{r:?xJ}(hc:V5 X ?Co r)(hg:?Ai)(hm:X.mg x=none)(hv:bootBuiltins x=some ?Co)(ha:?yT)
  (hr:∀ vs H F Q,Yh F H->IsL X.K F ds vs->(∀ v H' F',Pur F H F' H'->Is X.K F' d v->Q v H')->r vs H Q) (hn:x ≠ "__name__" :=by decide) (hdb:?L:=by decide)
  (he:?T:=by rfl) (hpl:?zA:=by rfl):P3 X Γ ?yP d:=
 PE.of (rQ hc hg hm hv ha hn hdb he hpl) fun σ H Q ⟨F,fh,sl,q⟩=>⟨F,fh,sl,fun vs H' F' pu i=>hr vs H' F' Q pu.fh i fun v H2 F2 p2 i2=>q v H2 F2 ?IR i2⟩
end
theorem Ui {K:?A1}{F:Hp}{d:D}{vs:?AL}(h:IsL K F [d] vs):∃ x,vs=[x]/\Is K F d x:=by
 simp only[IsL] at h;obtain⟨x,r,rfl,i,rfl⟩:=h;exact⟨x,rfl,i⟩
theorem Bb {K:?A1}{F:Hp}{d e:D}{vs:?AL}(h:IsL K F [d,e] vs):∃ x y,vs=[x,y]/\Is K F d x/\Is K F e y:=by
 simp only[IsL] at h;obtain⟨x,r,rfl,i,y,r2,rfl,i2,rfl⟩:=h;exact⟨x,y,rfl,i,i2⟩
theorem Bj:∀ (n:Nat) {d e:D},dep d<=n->kin d e=true->kin e d=true:=by
 intro n
 induction n with
 |zero=>intro d e hn hk;rcases vI hk with ⟨rfl,rfl⟩|⟨_,_,rfl,rfl⟩|⟨_,_,rfl,rfl⟩|⟨_,_,rfl,rfl⟩|⟨_,_,rfl,rfl,hk⟩|⟨_,_,rfl,rfl,hk⟩ <;> rw[kin] <;> (rw[dep] at hn;lia)
 |succ n ih=>
  intro d e hn hk;have go:∀ {ds es:List D},Z2 ds<=n->J1 ds es=true->J1 es ds=true:=by
   intro ds
   induction ds with
   |nil=>intro es _ _;cases es <;> simp[J1]
   |cons a as ih2=>
    intro es hd hks;cases es with
    |nil=>simp[J1]
    |cons b bs=>
     rw[Z2] at hd;rw[J1,Yw] at hks;rw[J1,ih ?A hks.1,ih2 ?A hks.2];rfl
  rcases vI hk with ⟨rfl,rfl⟩|⟨_,_,rfl,rfl⟩|⟨_,_,rfl,rfl⟩|⟨_,_,rfl,rfl⟩|⟨_,_,rfl,rfl,hk⟩|⟨_,_,rfl,rfl,hk⟩ <;> rw[kin] <;> (rw[dep] at hn;exact go ?A hk)
def GR (K:?A1):R2:=fun x y H Q=>∃ l b xs zs,x=.ref l/\y=.ref b/\SqL K H l xs/\SqL K H b zs/\xs.length+zs.length<=sizeLine/\∀ p,H p=none->Q ?Bw (upd H p (.lst (xs++zs)))
section
theorem DO:OpR X ?Hz (GR X.K):=by
 intro pins s σ H x y v u Q I rx ry h;obtain⟨l,b,xs,zs,rfl,rfl,hH,hB,hz,q⟩:=h;cases rx;cases ry;obtain⟨its,r,⟨o,n,e,c,dd,d⟩,z⟩:=I.list hH;obtain⟨its2,r2,⟨o2,n2,e2,c2,dd2,d2⟩,z2⟩:=I.list hB;obtain⟨oc,od,odt,osl⟩:=o;obtain⟨oc2,od2,odt2,osl2⟩:=o2;dsimp only at c dd d c2 dd2 d2;subst c dd d c2 dd2 d2;have hl:=r.length;have hl2:=r2.length;have ea:its.toArray++its2.toArray=(its++its2).toArray:=by simp
 refine concat_meets ⟨_,e,rfl⟩ ⟨_,e2,rfl⟩ noFill_list_add seq_list_add PySem.F.slot_list_add PySem.F.entry_list_add (PySem.F.args_list_add_2 _ _) (list_addW l b its.toArray its2.toArray n n2 none none osl osl2 (by rw[yY,yY];lia)) ⟨e,e2,?_⟩;rw[ea];exact⟨.ref _,_,I.lnew (t':=?Ac) (r.append r2) (by rw[yK];lia),rfl,q _ I.fresh⟩
theorem nS (hc:?Z):V5 X (.builtin "sum") (fun xs H Q=>∃ (a:Addr) (ns:List Int),xs=[.ref a]/\SqL X.K H a ?CD/\Q (.int ns.sum) H):=by
 intro pins s σ H xs us Q I r h;obtain⟨a,ns,rfl,hl,q⟩:=h;obtain⟨u,rfl,rx⟩:=wc r;cases rx;obtain⟨its,rv,p,_⟩:=I.list hl;have hi:IntsAre its ns:=gK rv;obtain⟨ys,hx⟩:=hi.allInts.items;have hl':s.heap.IsList a (intItems ys):=hx▸p.isList;refine sum_intListG ?Bs hl' fun h' tk t' hk=>?_;have e1:ns=ys.toList.map ?C:=by
  rw[←nums_intItems,←hx];exact(show numsOf its.toArray.toList=ns from hi.numsOf).symm
 have e2:preSum (numAt ys) ys.size=ns.sum:=by
  rw[preSum_eq,List.take_of_length_le (by simp),e1]
 rw[e2];exact⟨.int ns.sum,H,I.kept hk,?DM,q⟩
def inD (x:D)(ds:?A7):Bool:=ds.any fun y=>qD y x
def HM (K:?A1)(neg:Bool):R2:=fun x y H Q=>∃ p xs d ds,y=.ref p/\(SqL K H p xs∨SqT K H p xs)/\IsL K H ds xs/\Is K H d x/\(∀ e∈ds,?xB)/\Q (.bl (if neg then !inD d ds else inD d ds)) H
open Classical in
def V6 (K:W.Frag)(H:Hp)(d:D)(ds:List D)(u:Value):Bool:=decide (∃ (e:D) (x:V),e∈ds/\YV x u/\Is K H e x/\qD e d=true)
open Classical in
theorem mI {K:W.Frag}{H:Hp}{d:D}{ds:List D}{u:Value}:V6 K H d ds u=true ↔ ∃ (e:D) (x:V),e∈ds/\YV x u/\Is K H e x/\qD e d=true:=by
 unfold V6;exact decide_eq_true_iff
theorem lS {K:?A1}{H:Hp}{d:D}{es:?A7}:∀ {ds:List D} {xs:List V} {us:List Value},(∀ e∈ds,e∈es)->IsL K H ds xs->qc xs us->(∀ e e' x,e∈es->e'∈es->Is K H e x->Is K H e' x->qD e d=qD e' d)->
  us.any (V6 K H d es)=ds.any fun y=>qD y d
 |[],_,_,_,h,r,_=>by simp only[IsL] at h;subst h;cases r;rfl
 |e::ds,_,_,hm,h,r,hs=>by
  simp only[IsL] at h;obtain⟨x,xs,rfl,i,h⟩:=h;cases r with
  |cons r1 r=>
   rename_i u us;rw[JG,JG,lS (fun e' q=>hm e' (yb _ q)) h r hs];congr 1;rw[YG,mI];constructor
   .rintro⟨e',x',m,r2,i2,b⟩;cases r2.inj r1;rw[←b];exact hs _ _ _ (hm e (by simp)) m i i2
   .intro b;exact⟨e,x,hm e (by simp),r1,i,b⟩
theorem wW(hu:?O)(I:?A8)(rx:YV x v)(hi:?Dp)(hd:Is X.K H d x)
  (hk:∀ e∈ds,?xB) (r:qc xs its):(∀ w∈its,SeqAt.EqAt X.A.in1 s w v (V6 X.K H d ds w))/\its.toArray.any ?G4=inD d ds:=by
 have key:=fun (x y:V) (d e:D) (u v:Value) p q r s' t w=>lx (s:=s) I 60 X.A.in1 ?tF x y d e u v p q r s' t w;have one:∀ e e' x',e∈ds->e'∈ds->Is X.K H e x'->Is X.K H e' x'->qD e d=qD e' d:=fun e e' x' m m' i i'=>by
  obtain⟨k1,n1⟩:=hk e m;obtain⟨k2,n2⟩:=hk e' m';by_cases b:qD e d=true
  .have ee:=Wi b;subst ee;have k3:kin e e'=true:=Bj 60 n2 k2;rw[Is.same I 60 n1 k3 i i']
  .by_cases b':qD e' d=true
   .have ee:=Wi b';subst ee;rw[Is.same I 60 n1 k1 i i']
   .rw[Q1.mpr b,Q1.mpr b']
 refine⟨fun w hw=>?_,?_⟩
 .obtain⟨i,hl,rfl⟩:=List.getElem_of_mem hw;have hx:i<xs.length:=by rw[r.length];exact hl
  have x1:xs[i]?=some xs[i]:=yl hx;obtain⟨w',e1,r1⟩:=r.get x1;rw[yl hl] at e1;cases e1;obtain⟨e,e2,i2⟩:=hi.get' x1;have m:=yx e2;have z:=key _ _ _ _ _ _ (hk e m).2 i2 hd (hk e m).1 r1 rx;have:V6 X.K H d ds its[i]=qD e d:=by
   rw[YG,mI];constructor
   .rintro⟨e',x',m',r2,i3,b⟩;cases r2.inj r1;rw[←b];exact one _ _ _ m m' i2 i3
   .intro b;exact⟨e,_,m,r1,i2,b⟩
  rw[this];exact z
 .rw[show its.toArray.any (V6 X.K H d ds)=its.any (V6 X.K H d ds) by simp,lS (fun _ z=>z) hi r one];rfl
theorem FR (hu:?O):OpR X ?L9 (HM X.K false):=by
 intro pins s σ H x y v u Q I rx ry h;obtain⟨p,xs,d,ds,rfl,hq,hi,hd,hk,q⟩:=h;cases ry;rcases hq with hq|hq
 .obtain⟨its,r,pl,hz⟩:=I.list hq;obtain⟨c1,c2⟩:=wW hu I rx hi hd hk r;refine SeqAt.in_listAt ?G4 pl.isList ?kN ?HC;rw[c2];exact q
 .obtain⟨its,r,pl,hz⟩:=I.tuple hq;obtain⟨c1,c2⟩:=wW hu I rx hi hd hk r;refine SeqAt.in_tupleAt ?G4 pl ?kN ?HC;rw[c2];exact q
theorem oP (hu:?O):OpR X (compareOp .NotIn) (HM X.K true):=by
 intro pins s σ H x y v u Q I rx ry h;obtain⟨p,xs,d,ds,rfl,hq,hi,hd,hk,q⟩:=h;cases ry;rcases hq with hq|hq
 .obtain⟨its,r,pl,hz⟩:=I.list hq;obtain⟨c1,c2⟩:=wW hu I rx hi hd hk r;refine SeqAt.notIn_listAt ?G4 pl.isList ?kN ?HC;rw[c2];exact q
 .obtain⟨its,r,pl,hz⟩:=I.tuple hq;obtain⟨c1,c2⟩:=wW hu I rx hi hd hk r;refine SeqAt.notIn_tupleAt ?G4 pl ?kN ?HC;rw[c2];exact q
def tU (K:?A1):R2:=fun x y H Q=>∃ a b xs ys,x=.ref a/\y=.ref b/\SqT K H a xs/\SqT K H b ys/\xs.length+ys.length<=sizeLine/\
 (xs=[]->Q ?Be H)/\(ys=[]->Q ?AB H)/\∀ p,H p=none->Q ?Bw (upd H p (.tup (xs++ys)))
theorem rS:OpR X (binaryOp .Add) (tU X.K):=by
 intro pins s σ H x y v u Q I rx ry h;obtain⟨a,b,xs,ys,rfl,rfl,ha,hb,hz,q0,q1,q2⟩:=h;by_cases hx:xs=[]
 .cases rx;cases ry;obtain⟨its,r1,p1,_⟩:=I.tuple ha;obtain⟨its2,r2,p2,_⟩:=I.tuple hb;obtain⟨⟨cls,dd,data,sl⟩,ho,hc,n,hd⟩:=id p1;obtain⟨⟨cls2,dd2,data2,sl2⟩,ho2,hc2,n2,hd2⟩:=id p2;simp only at hc hd hc2 hd2;subst hc hd hc2 hd2;exact concat_meets ⟨_,ho,rfl⟩ ⟨_,ho2,rfl⟩ noFill_tuple_add seq_tuple_add PySem.F.slot_tuple_add PySem.F.entry_tuple_add (PySem.F.args_tuple_add_2 _ _)
   (tuple_addW0 a b its.toArray its2.toArray n n2 dd dd2 sl sl2 (by simp[r1.nil_iff.mpr hx])) ⟨ho,ho2,⟨.ref b,H,I,rfl,q0 hx⟩⟩
 .exact Di pins s σ H _ _ v u Q I rx ry ⟨a,b,xs,ys,rfl,rfl,ha,hb,hx,hz,q1,fun _=>q2⟩
end
section
theorem isT {K:?A1}{F:Hp}{v:V}(h:Is K F ?CA v):∃ a xs,v=.ref a/\SqT K F a xs/\IsL K F ds xs:=by simpa only[Is] using h
theorem cw {K:?A1}{F:Hp}{v:V}(h:Is K F ?BP v):∃ a xs,v=.ref a/\Rd F a ?Aa/\IsL K F ds xs:=by simpa only[Is] using h
theorem ze {K:?A1}{F:Hp}{v:V}(h:Is K F ?BP v):∃ a xs,v=.ref a/\SqL K F a xs/\IsL K F ds xs:=by
 obtain⟨a,xs,e,r,i⟩:=cw h;exact⟨a,xs,e,.inl r,i⟩
theorem Is.tupI {K:?A1}{F:Hp}{a:Addr}{xs:?AL}(h:SqT K F a xs)(i:?Eu):Is K F ?CA ?AB:=by simp only[Is];exact⟨a,xs,rfl,h,i⟩
theorem Is.lstI {K:?A1}{F:Hp}{a:Addr}{xs:?AL}(h:Rd F a ?Aa)(i:?Eu):Is K F ?BP ?AB:=by simp only[Is];exact⟨a,xs,rfl,h,i⟩
theorem Ez (ha:?CJ)(hb:?Jw)(hz:?kS):PF3 X Γ ?Fm (ds++es):=
 PE.of (uP DO ha hb) fun σ H Q ⟨F,fh,sl,k⟩=>tP2 ⟨F,fh,sl,fun x y H2 F2 p i1 i2=>by
  obtain⟨l,xs,rfl,s1,j1⟩:=ze i1;obtain⟨l2,ys,rfl,s2,j2⟩:=ze i2;exact⟨l,l2,xs,ys,rfl,rfl,?Lc,p.fh.seq s2,by rw[j1.len,j2.len];exact hz,fun q hq=>k q _ _ F2 (p.trans (Pur.layOwn p.fh hq)) (p.hh.free hq) (p.fh.free hq) yX (j1.append j2)⟩⟩
theorem eQ (ha:?CJ)(hb:?Jw)(hz:?kS):P3 X Γ ?Fm (.lst (ds++es)):=(Ez ha hb hz).p
theorem Fj(ha:?Fo)(hb:?PF)(hz:x.length+y.length<=sizeLine):P3 X Γ ?Fm (.str (x++y)):=
 rc gr ha hb fun v w H F Q fh i1 i2 k=>⟨x,y,isS i1,isS i2,hz,k _ _ _ ?Ag (X7 F)⟩
theorem Zp (hm:?xS)(hg:Gl X "len")(ha:?CJ)(he:?zG:=by rfl):?NG:=
 ZT Vn hg hm PySem.boot_len ?CM (fun vs H F Q fh i k=>by
  obtain⟨x,rfl,j0⟩:=Ui i;obtain⟨l,xs,rfl,s1,j1⟩:=ze j0;exact⟨l,xs,rfl,.inl ?FD,k _ _ _ ?Ag (by rw[j1.len];exact JH F)⟩) ?B ?B he
theorem zy (hm:?xS)(hg:Gl X "len")(ha:?I2)(he:?zG:=by rfl):?NG:=
 ZT Vn hg hm PySem.boot_len ?CM (fun vs H F Q fh i k=>by
  obtain⟨x,rfl,j0⟩:=Ui i;obtain⟨l,xs,rfl,s1,j1⟩:=isT j0;exact⟨l,xs,rfl,.inr (jE fh s1),k _ _ _ ?Ag (by rw[j1.len];exact JH F)⟩) ?B ?B he
theorem EE {ns:?CQ}(hm:?xS)(hg:Gl X "len")(ha:?On)(he:?zG:=by rfl):P3 X Γ ?uH (.int ns.length):=
 ZT Vn hg hm PySem.boot_len ?CM (fun vs H F Q fh i k=>by
  obtain⟨x,rfl,j0⟩:=Ui i;simp only[Is] at j0;obtain⟨l,rfl,s1⟩:=j0;exact⟨l,_,rfl,.inl ?FD,k _ _ _ ?Ag (by rw[yd];exact JH F)⟩) ?B ?B he
theorem HK {ns:?CQ}{i n:Int}(ha:?On)(hb:?HV)(he:atI ns i=some n)(hs:Vz b:=by exact ?yV):P3 X Γ ?Dn (.int n):=
 nr uH ha hb (fun x y H F Q fh i1 i2 k=>by
  simp only[Is] at i1 i2;obtain⟨l,rfl,h1⟩:=i1;refine⟨l,_,i,.int n,rfl,i2,fh.seq h1,?_,k _ H F ?Ag (JH F)⟩;unfold atI at he ⊢;rw[yd];cases q:ixN ns.length i with
  |none=>rw[q] at he;cases he
  |some j=>
   rw[q] at he;have he':ns[j]?=some n:=he;show(?CD)[j]?=_;rw[yz,he'];rfl) hs
theorem Gb {x:Str}(hm:?xS)(hg:Gl X "len")(ha:?Fo)(hz:x.length<=sizeLine)(he:?zG:=by rfl):P3 X Γ ?uH (.int x.length):=
 ZT aP hg hm PySem.boot_len ?CM (fun vs H F Q fh i k=>by
  obtain⟨v,rfl,j0⟩:=Ui i;exact⟨x,by rw[isS j0],hz,k _ _ _ (Pur.refl fh) (JH F)⟩) ?B ?B he
theorem Cm:bootBuiltins "dict" = some ?qX:=by decide +kernel
theorem rW:bootBuiltins "tuple" = some ?zX:=by decide +kernel
theorem Dw:bootBuiltins "list" = some ?S:=by decide +kernel
theorem Xj:bootBuiltins "isinstance" = some (.builtin "isinstance"):=by decide +kernel
theorem FH:bootBuiltins "sum" = some (.builtin "sum"):=by decide +kernel
theorem vD (hm:X.mg "list" = none)(hg:Gl X "list")(ha:?Cm)(hd:d=.lst ds∨d=.tup ds)(he:?zG:=by rfl):PF3 X Γ (.Call (.Name "list" p) [a] [] pos) ds:=
 PE.of (X1 bN hg hm Dw ?CM ?B ?B he) fun σ H Q ⟨F,fh,sl,q⟩=>⟨F,fh,sl,fun vs H' F' pu i=>by
  obtain⟨x,rfl,j0⟩:=Ui i;rcases hd with rfl|rfl
  .obtain⟨l,xs,rfl,s1,j1⟩:=ze j0;exact⟨l,xs,rfl,.inl (pu.fh.seq s1),fun l' hl=>?MM⟩
  .obtain⟨l,xs,rfl,s1,j1⟩:=isT j0;exact⟨l,xs,rfl,.inr (jE pu.fh s1),fun l' hl=>?MM⟩⟩
theorem G6 {ns:?CQ}(hc:?Z)(hm:X.mg "sum" = none)(hg:Gl X "sum")(ha:P3 X Γ a (.lst ?GT))(he:?zG:=by rfl):P3 X Γ (.Call (.Name "sum" p) [a] [] pos) (.int ns.sum):=
 ZT (nS hc) hg hm FH ?CM (fun vs H F Q fh i k=>by
  obtain⟨x,rfl,j0⟩:=Ui i;obtain⟨l,xs,rfl,s1,j1⟩:=ze j0;have e:=IsL.of_ints j1;subst e;exact⟨l,ns,rfl,?FD,?P3⟩) ?B ?B he
theorem FK (hu:?O)(ha:?Cm)(hb:?Dv)(hd:d'=.lst ds∨d'=.tup ds)(hk:∀ e∈ds,?xB):C3 X Γ a .In b (inD d ds):=
 c_R (FR hu) ha hb fun x y H F Q fh i1 i2 q=>by
  rcases hd with rfl|rfl
  .obtain⟨l,xs,rfl,s1,j1⟩:=ze i2;exact ?MO
  .obtain⟨l,xs,rfl,s1,j1⟩:=isT i2;exact ?MP
theorem uA (hu:?O)(ha:?Cm)(hb:?Dv)(hd:d'=.lst ds∨d'=.tup ds)(hk:∀ e∈ds,?xB):C3 X Γ a .NotIn b (!inD d ds):=
 c_R (oP hu) ha hb fun x y H F Q fh i1 i2 q=>by
  rcases hd with rfl|rfl
  .obtain⟨l,xs,rfl,s1,j1⟩:=ze i2;exact ?MO
  .obtain⟨l,xs,rfl,s1,j1⟩:=isT i2;exact ?MP
end
structure Bs where
 M:List Addr
 F:Hp
 H:Hp
abbrev Ow:=Hp->HO->Prop
abbrev Om:=List (Addr×Ow)
abbrev Ga:=List (Option D)
def YW (K:?A1)(ds:?A7):Ow:=fun F o=>∃ xs,o=.lst xs/\IsL K F ds xs
structure Sat (K:?A1)(B:Bs)(Γ:Ga)(Ω:Om)(F:Hp)(σ:?AY)(H:Hp):Prop where
 f0:Yh B.F F
 fh:Yh F H
 fr:∀ b,F b≠none->B.F b≠none∨B.H b=none∨b∈B.M
 kp:∀ b o,b∉B.M->B.H b=some o->H b=some o
 nd:(Ω.map ?C).Nodup
 od:∀ p∈Ω,p.1∈B.M∨B.H p.1=none
 own:∀ p∈Ω,F p.1=none/\∃ o,H p.1=some o/\∀ F',Yh F F'->p.2 F' o
 sl:Sl K F Γ σ
section
variable {K:?A1}{B:Bs}{Γ Γ':Ga}{Ω:Om}{F F':Hp}{σ σ':?AY}{H H':Hp}
theorem Sat.freeB (S:?BE)(h:H b=none):B.H b=none∨b∈B.M:=by
 by_cases hb:b∈B.M
 .exact .inr hb
 .refine .inl ?_;cases q:B.H b with
  |none=>rfl
  |some o=>rw[S.kp b o hb q] at h;cases h
theorem Sat.pur (S:?BE)(p:?LL):Sat K B Γ Ω F' σ H' where
 f0:=S.f0.trans p.ff
 fh:=p.fh
 fr:=fun b q=>(p.new b q).elim (fun z=>S.fr b z) fun z=>(S.freeB z).elim (fun w=>?II) fun w=>.inr (.inr w)
 kp:=fun b o hb e=>p.hh _ _ (S.kp b o hb e)
 nd:=S.nd
 od:=S.od
 own:=fun q hq=>by
  obtain⟨h1,o,h2,h3⟩:=S.own q hq;refine⟨?_,o,p.hh _ _ h2,fun F2 e=>h3 F2 (p.ff.trans e)⟩;cases z:F' q.1 with
  |none=>rfl
  |some u=>
   rcases p.new q.1 (by rw[z];simp) with w|w
   .exact absurd h1 w
   .rw[h2] at w;cases w
 sl:=S.sl.mono p.ff
theorem Sat.slots (S:?BE)(h:Sl K F Γ' σ'):Sat K B Γ' Ω F σ' H:=⟨S.f0,S.fh,S.fr,S.kp,S.nd,S.od,S.own,h⟩
theorem Sl.set(h:?IJ)(hi:i<σ.length)(hv:?GO):Sl K F ?Fx ?HX:=fun j e q=>by
 by_cases hj:i=j
 .subst hj;rw[qN] at q;split at q
  .split at q
   .cases q;exact⟨v,by rw[qN];simp[hi],hv⟩
   .cases q
  .contradiction
 .rw[qM hj] at q;obtain⟨u,h1,h2⟩:=h j e q;exact⟨u,by rw[qM hj];exact h1,h2⟩
theorem Sl.nil:Sl K F [] σ:=fun j e q=>by simp at q
theorem Sat.toPur (S:?BE)(hM:B.M=[]):Pur B.F B.H F H:=⟨S.f0,S.fh,fun b o e=>S.kp b o (by rw[hM];simp) e,fun b q=>(?Gk).elim .inl fun z=>z.elim .inr fun w=>by rw[hM] at w;cases w⟩
end
structure E3 where
 nx:Ga->Om->Prop
 rt:D->Om->Prop
 bk:?wE:=fun _ _=>False
 ct:?wE:=fun _ _=>False
inductive nX (K:?A1)(B:Bs)(F0:Hp)(N:?wE)(σ:?AY)(H:Hp):Prop
 |mk (Γ:Ga) (Ω:Om) (F:Hp) (S:?BE) (f:Yh F0 F) (n:N Γ Ω)
inductive rX (K:?A1)(B:Bs)(F0:Hp)(R:?X)(v:V)(H:Hp):Prop
 |mk (d:D) (Ω:Om) (F:Hp) (S:∃ σ,Sat K B [] Ω F σ H) (f:Yh F0 F) (i:?GO) (r:R d Ω)
def E3.to (K:?A1)(B:Bs)(F0:Hp)(E:E3):Ends:=⟨nX K B F0 E.nx,rX K B F0 E.rt,nX K B F0 E.bk,nX K B F0 E.ct⟩
theorem nX.mono {K:?A1}{B:Bs}{F0 F1:Hp}{N:?wE}{σ:?AY}{H:Hp}(e:Yh F0 F1)(h:nX K B F1 N σ H):nX K B F0 N σ H:=by
 obtain⟨Γ,Ω,F,S,f,n⟩:=h;exact⟨Γ,Ω,F,S,e.trans f,n⟩
def WS (X:Cx)(sts:?Aw):TS:=fun D σ H=>∀ (pins:List (Addr×Obj)) (s:Shared),Inv X pins σ H s->wpAny ?AD X.A (execs sts X.env) ?Lj X.xe s
def WE (X:Cx)(e:Expr):TE:=fun σ H Q=>∀ (pins:List (Addr×Obj)) (s:Shared),Inv X pins σ H s->wpAny ?AD X.A ?Cj ?Bn X.xe s
def WT (X:Cx)(e:Expr):TT:=fun σ H Q=>∀ (pins:List (Addr×Obj)) (s:Shared),Inv X pins σ H s->wpAny ?AD X.A ?P5 ?G0 X.xe s
theorem Qg:PSs X sts (WS X sts):=fun pins s σ H D I h=>h pins s I
theorem jl:PE X e (WE X e):=fun pins s σ H Q I h=>h pins s I
theorem G9:PT X e (WT X e):=fun pins s σ H Q I h=>h pins s I
theorem PT3.wt(h:?IF)(q:tPT X.K Γ k σ H Q):WT X e σ H Q:=fun pins s I=>h pins s σ H Q I q
theorem P3.we(h:?Cl)(q:tP X.K Γ d σ H Q):WE X e σ H Q:=fun pins s I=>h pins s σ H Q I q
def W3 (X:Cx)(B:Bs)(sts:?Aw)(Γ:Ga)(Ω:Om)(E:E3):Prop:=∀ F σ H,Sat X.K B Γ Ω F σ H->WS X sts ?DO σ H
section
variable {X:Cx}{B:Bs}{Γ:Ga}{Ω:Om}{E:E3}{rest body:?Aw}{e c:Expr}{d:D}{pos pos':Pos}{k:Bool}
theorem Qs {D D':Ends}(hn:∀ σ H,D.nx σ H->D'.nx σ H)(hr:∀ v H,D.rt v H->D'.rt v H)(hb:∀ σ H,D.bk σ H->D'.bk σ H)(hc:∀ σ H,D.ct σ H->D'.ct σ H)(h:WS X body D σ H):WS X body D' σ H:=fun pins s I=>
 thn ?IX fun f s' q=>by
  cases f with
  |next=>obtain⟨σ',H',I',q⟩:=q;exact⟨σ',H',I',hn _ _ q⟩
  |brk=>obtain⟨σ',H',I',q⟩:=q;exact⟨σ',H',I',hb _ _ q⟩
  |cont=>obtain⟨σ',H',I',q⟩:=q;exact⟨σ',H',I',hc _ _ q⟩
  |ret u=>obtain⟨v,σ',H',I',r,q⟩:=q;exact⟨v,σ',H',I',r,hr _ _ q⟩
theorem qF(e:Yh F0 F1)(h:WS X body (E.to X.K B F1) σ H):WS X body (E.to X.K B F0) σ H:=
 Qs (D:=E.to X.K B F1) (D':=E.to X.K B F0) (fun _ _ q=>q.mono e) (fun v H ⟨d,Ω,F,S,f,i,r⟩=>⟨d,Ω,F,S,e.trans f,i,r⟩) (fun _ _ q=>q.mono e) (fun _ _ q=>q.mono e) h
theorem y9 (h:E.nx Γ Ω):W3 X B [] Γ Ω E:=fun F σ H S pins s I=>B9 pins s σ H _ I ⟨Γ,Ω,F,S,?AE,h⟩
theorem Y2(hN:?CC)(hi:?zF)(hx:?DL)(he:?Cl)(h:W3 X B rest ?Fx Ω E)(hs:?vY:=by rfl)
  (hf:?yN:=by first|exact .inl rfl|exact .inr rfl|assumption):?uM:=fun F σ H S pins s I=>
 qd ?Ot Qg pins s σ H _ I ⟨F,S.fh,S.sl,fun v H' F' p i'=>qF p.ff (h F' _ H' ((?CF).slots (Sl.set (S.sl.mono p.ff) (by rw[I.len];exact(?ED).1) i')))⟩
theorem qH (he:?Cl)(h:E.rt d Ω):W3 X B (.Return ?D1 pos::rest) Γ Ω E:=fun F σ H S pins s I=>
 qd (bW he) Kp pins s σ H _ I ⟨F,S.fh,S.sl,fun v H' F' p i'=>⟨d,Ω,F',⟨σ,(?CF).slots Sl.nil⟩,p.ff,i',h⟩⟩
theorem cJ (he:?Cl)(h:W3 X B rest Γ Ω E)(hs:?uU:=by rfl):W3 X B (.Expr e pos::rest) Γ Ω E:=fun F σ H S pins s I=>
 qd (Kq he hs) Qg pins s σ H _ I ⟨F,S.fh,S.sl,fun v H' F' p i'=>qF p.ff (h F' _ H' ?CF)⟩
abbrev E3.then (E:E3)(X:Cx)(B:Bs)(rest:?Aw):E3:={E with nx:=fun Γ' Ω'=>?DC}
theorem Wj(h:nX X.K B F (fun Γ' Ω'=>?DC) σ H):WS X rest ?DO σ H:=by
 obtain⟨Γ',Ω',F',S,f,w⟩:=h;exact qF f (w F' σ H S)
theorem uZ(h:WS X body ((?Ek).to X.K B F) σ H):WS X body {?DO with nx:=?Dr} σ H:=
 Qs (D:=(?Ek).to X.K B F) (D':={?DO with nx:=?Dr}) (fun _ _ q=>Wj q) ?yC ?yC ?yC h
theorem zO(hc:?GB)(ht:k=true->W3 X B a Γ Ω ?Ek)(hf:k=false->W3 X B b Γ Ω ?Ek):?tD:=fun F σ H S pins s I=>by
 cases k with
 |true=>exact qd (Aa hc Qg Kp) Qg pins s σ H _ I ⟨F,S.fh,S.sl,fun H' F' p=>BP (uZ (qF p.ff (ht rfl F' σ H' ?CF)))⟩
 |false=>exact qd (Aa hc Kp Qg) Qg pins s σ H _ I ⟨F,S.fh,S.sl,fun H' F' p=>rO (uZ (qF p.ff (hf rfl F' σ H' ?CF)))⟩
theorem aN (hp:?Fk)(J:?wE)(μ:Ga->Om->Nat)(h0:J Γ Ω)
  (step:∀ Γ Ω,J Γ Ω->∃ k,PT3 X Γ c k/\(k=true->W3 X B body Γ Ω {E with nx:=fun Γ' Ω'=>?qI,ct:=fun Γ' Ω'=>?qI,bk:=fun Γ' Ω'=>?DC})/\(k=false->W3 X B rest Γ Ω E)) :
  W3 X B (.While c body [] pos::rest) Γ Ω E:=fun F σ H S pins s I=>by
 refine qd (rP hp G9 Qg) Qg pins s σ H _ I ⟨fun m σ H=>∃ Γ Ω F1,Sat X.K B Γ Ω F1 σ H/\Yh F F1/\J Γ Ω/\μ Γ Ω=m,⟨_,Γ,Ω,F,S,Yh.refl _,h0,rfl⟩,?_⟩;rintro m σ H ⟨Γ,Ω,F1,S,f1,j,rfl⟩;obtain⟨k,hc,ht,hf⟩:=step Γ Ω j;refine hc.wt ⟨F1,S.fh,S.sl,fun H' F' p=>?_⟩;cases k with
 |true=>
  refine BP ⟨nX X.K B F fun Γ' Ω'=>?qI,?_,Qs (D:=E3.to X.K B F {E with nx:=fun Γ' Ω'=>?qI,ct:=fun Γ' Ω'=>?qI,bk:=fun Γ' Ω'=>?DC})
   (D':={nx:=nX X.K B F fun Γ' Ω'=>?qI,rt:=(?DO).rt,bk:=?Dr,ct:=nX X.K B F fun Γ' Ω'=>?qI}) ?yC ?yC (fun _ _ q=>Wj q) ?yC (qF (f1.trans p.ff) (ht rfl F' σ H' ?CF))⟩
  rintro σ' H' ⟨Γ',Ω',F',S',f',j',l⟩;exact⟨_,l,Γ',Ω',F',S',f',j',rfl⟩
 |false=>exact rO (qF (f1.trans p.ff) (hf rfl F' σ H' ?CF))
end
def G3 (X:Cx)(tg:Expr)(Γ:Ga)(d:D)(Γ':Ga):Prop:=∃ g,PG X tg g/\∀ (F:Hp) (σ:L2.St) (H:Hp) (v:V) (Q:L2.St->Hp->Prop),Yh F H->Is X.K F d v->Sl X.K F Γ σ->σ.length=X.N.length->(∀ σ',Sl X.K F Γ' σ'->σ'.length=X.N.length->Q σ' H)->g v σ H Q
def GL3 (X:Cx)(tg:?AW)(Γ:Ga)(ds:?A7)(Γ':Ga):Prop:=∃ g,PGs X tg g/\∀ (F:Hp) (σ:L2.St) (H:Hp) (vs:List V) (Q:L2.St->Hp->Prop),Yh F H->IsL X.K F ds vs->Sl X.K F Γ σ->σ.length=X.N.length->(∀ σ',Sl X.K F Γ' σ'->σ'.length=X.N.length->Q σ' H)->g vs σ H Q
section
theorem Yl(hN:?CC)(hi:?zF)(hx:?DL)(hf:?yN:=by first|exact .inl rfl|exact .inr rfl|assumption):G3 X ?Do Γ d ?Fx:=
 ⟨_,Dp hN hi hx hf,fun F σ H v Q fh iv sl hl q=>q _ (sl.set (by rw[hl];exact(?ED).1) iv) (by rw[List.length_set];exact hl)⟩
theorem zD:GL3 X [] Γ [] Γ:=⟨_,Db,fun F σ H vs Q fh iv sl hl q=>by
 simp only[IsL] at iv;exact⟨iv,q σ sl hl⟩⟩
theorem qh (h1:G3 X tg Γ d Γ1)(h2:GL3 X tgs Γ1 ds Γ2)(hs:∀ {g:TG} {u:TGs},PG X tg g->PGs X tgs u->PGs X (tg::tgs) (Ep g u):=by exact fun a b=>Aj a b):GL3 X (tg::tgs) Γ (d::ds) Γ2:=by
 obtain⟨g,p1,q1⟩:=h1;obtain⟨u,p2,q2⟩:=h2;refine⟨_,hs p1 p2,fun F σ H vs Q fh iv sl hl q=>?_⟩;simp only[IsL] at iv;obtain⟨x,r,rfl,i1,i2⟩:=iv;exact⟨x,r,rfl,q1 F σ H x _ fh i1 sl hl fun σ' sl' hl'=>q2 F σ' H r _ fh i2 sl' hl' q⟩
theorem vo {k:Nat}(hc:?Z)(h:GL3 X tgs Γ ds Γ1)(hn:(?OV).length=ds.length:=by rfl)(hst:(?OV).findIdx? ?C=none:=by rfl):G3 X (.Tuple tgs k pos) Γ ?CA Γ1:=by
 obtain⟨g,p,q⟩:=h;refine⟨_,Fh hc p hn hst,fun F σ H v Q fh iv sl hl k=>?_⟩;obtain⟨a,xs,rfl,h1,h2⟩:=isT iv;exact⟨a,xs,rfl,jE fh h1,h2.len,q F σ H xs Q fh h2 sl hl k⟩
end
def mf (K:?A1)(F0:Hp)(J:It)(ds:?A7):Prop:=∀ (i:Nat) (F H:Hp),Yh F0 F->Yh F H->
 (∀ d,ds[i]?=some d->J.go i H/\∀ x H',J.yld i H x H'->∃ F',Pur F H F' H'/\Is K F' d x)/\(ds.length<=i->J.stop i H)
def I3 (X:Cx)(Γ:Ga)(tg iter:Expr)(ds:?A7):Prop:=PI X tg iter fun σ H R=>∃ F,Yh F H/\Sl X.K F Γ σ/\∀ J H' F',Pur F H F' H'->mf X.K F' J ds->R J H'
theorem PI.of(h:PI X tg e t)(i:∀ σ H R,u σ H R->t σ H R):PI X tg e u:=fun pins s σ H Q I hq=>h pins s σ H Q I ?F3
section
theorem QH (hl:?CJ):I3 X Γ tg a ds:=PI.of (cP hl) fun σ H R ⟨F,fh,sl,q⟩=>⟨F,fh,sl,fun v H' F' p i=>by
 obtain⟨l,xs,rfl,s1,j1⟩:=ze i;refine⟨l,rfl,⟨xs,?Lc⟩,q _ H' F' p fun n F2 H2 e1 e2=>?uD⟩;obtain⟨x,hx,ix⟩:=j1.get w;refine ?uQ;subst z;have:=w' xs ?yR;rw[hx] at this;cases this;exact ?Ff⟩
theorem Em (hl:?I2):I3 X Γ tg a ds:=PI.of (Fd hl) fun σ H R ⟨F,fh,sl,q⟩=>⟨F,fh,sl,fun v H' F' p i=>by
 obtain⟨l,xs,rfl,s1,j1⟩:=isT i;refine⟨l,rfl,⟨xs,jE p.fh s1⟩,q _ H' F' p fun n F2 H2 e1 e2=>⟨fun d w=>?_,fun w=>⟨xs,jE ?Ck s1,by rw[j1.len];exact w⟩⟩⟩;obtain⟨x,hx,ix⟩:=j1.get w;refine⟨⟨xs,x,jE ?Ck s1,hx⟩,fun y H3 ⟨z,w'⟩=>?_⟩;subst z;have:=w' xs (jE ?Ck s1);rw[hx] at this;cases this;exact ?Ff⟩
def wN (lo:Int)(n:Nat):?A7:=(?Dw).map fun (j:Nat)=>.int (lo+(j:Int))
theorem Wt {K:?A1}{F0:Hp}{lo:Int}{n:Nat}:mf K F0 (Itr lo n) (wN lo n):=fun i F H e1 e2=>
 ⟨fun d q=>by
  unfold wN at q;rw[yz] at q;have hi:i<n:=by
   by_cases h:i<n
   .exact h
   .rw[yE.mpr (by simpa using h)] at q;cases q
  rw[jJ hi] at q;cases q;refine⟨hi,fun x H' ⟨z,w⟩=>?_⟩;subst z w;exact⟨F,?IO,JH F⟩,fun q=>by
  unfold wN at q;have q':n<=i:=by simpa using q
  exact q'⟩
theorem A0 {j:Int}(hm:?qM)(hg:?qV)(ha:?PG)(h1:-(2 ^ 62)<=j)(h2:j<2 ^ 62)(hs:?jF:=by rfl):I3 X Γ tg ?kO (wN 0 j.toNat):=
 PI.of (ah hg hm (yc ha yr hs) hs) fun σ H R ⟨F,fh,sl,q⟩=>⟨F,fh,sl,fun vs H' F' pu i=>by
  obtain⟨x,rfl,j0⟩:=Ui i;exact⟨j,by rw[isI j0],h1,h2,q _ H' F' pu Wt⟩⟩
theorem sf {i j:Int}(hm:?qM)(hg:?qV)(ha:?BI)(hb:?BF)(h1:-(2 ^ 62)<=i/\i<2 ^ 62/\-(2 ^ 62)<=j/\j<2 ^ 62)(hs:?jE:=by rfl)(hs2:?jN:=by rfl) :
  I3 X Γ tg ?tE (wN i (?P).toNat):=
 PI.of (nT hg hm (yc ha ?LP (hs.trans (by rw[hs2]))) hs hs2) fun σ H R ⟨F,fh,sl,q⟩=>⟨F,fh,sl,fun vs H' F' pu iv=>by
  obtain⟨x,y,rfl,j0,j1⟩:=Bb iv;exact⟨i,j,by rw[isI j0,isI j1],h1,q _ H' F' pu Wt⟩⟩
def uv (ds:?A7):?A7:=ds.mapIdx fun i d=>.tup [.int (i:Int),d]
theorem BV(hm:X.mg "enumerate" = none)(hg:Gl X "enumerate")(ha:?CJ)(hs:?jF:=by rfl) :
  I3 X Γ (.Tuple es' x1 tpos) (.Call (.Name "enumerate" p) [a] [] pos) (uv ds):=
 PI.of (DF hg hm (yc ha yr hs) hs) fun σ H R ⟨F,fh,sl,q⟩=>⟨F,fh,sl,fun vs H' F' pu iv=>by
  obtain⟨x,rfl,j0⟩:=Ui iv;obtain⟨l,xs,rfl,s1,j1⟩:=cw j0;refine⟨l,xs,rfl,ZR pu.fh s1,fun K=>q _ H' F' pu fun n F2 H2 e1 e2=>?kU⟩
  .unfold uv at w;rw[List.getElem?_mapIdx] at w;cases z:ds[n]? with
   |none=>rw[z] at w;cases w
   |some d0=>
    rw[z] at w;cases w;obtain⟨y,hy,iy⟩:=j1.get z;have hl:SqL K H2 l xs:=.inl (ZR ?Ck s1);refine⟨⟨xs,y,hl,hy⟩,fun v H3 ⟨T,y',hT,hv,hy',e3⟩=>?_⟩;subst hv e3;have:=hy' xs hl;rw[hy] at this;cases this;refine⟨_,?G5,Is.tupI ?Dt (IsL.cons (JH _) (IsL.cons (iy.mono (e1.trans (?G5).ff)) IsL.nil))⟩
  .unfold uv at w;rw[J7] at w;exact⟨xs,.inl (ZR ?Ck s1),by rw[j1.len];exact w⟩⟩
def ka (ds es:?A7):?A7:=(ds.zip es).map fun p=>.tup [p.1,p.2]
theorem fx(hm:X.mg "zip" = none)(hg:Gl X "zip")(ha:?CJ)(hb:?Jw)(hs:?jE:=by rfl)(hs2:?jN:=by rfl) :
  I3 X Γ (.Tuple es' x1 tpos) (.Call (.Name "zip" p) [a,b] [] pos) (ka ds es):=
 PI.of (EB hg hm (yc ha ?LP (hs.trans (by rw[hs2]))) hs hs2) fun σ H R ⟨F,fh,sl,q⟩=>⟨F,fh,sl,fun vs H' F' pu iv=>by
  obtain⟨x,y,rfl,j0,j00⟩:=Bb iv;obtain⟨l,xs,rfl,s1,j1⟩:=ze j0;obtain⟨l2,ys,rfl,s2,j2⟩:=ze j00;refine⟨l,l2,xs,ys,rfl,pu.fh.seq s1,pu.fh.seq s2,q _ H' F' pu fun n F2 H2 e1 e2=>?kU⟩
  .unfold ka at w;rw[yz] at w;cases z:(ds.zip es)[n]? with
   |none=>rw[z] at w;cases w
   |some d0=>
    rw[z] at w;cases w;obtain⟨z1,z2⟩:=qG.mp z;obtain⟨x,hx,ix⟩:=j1.get z1;obtain⟨y,hy,iy⟩:=j2.get z2;have h1:=(?Ck).seq s1;have h2:=(?Ck).seq s2;refine⟨⟨xs,ys,x,y,h1,h2,hx,hy⟩,fun v H3 ⟨T,x',y',hT,hv,hx',hy',e3⟩=>?_⟩;subst hv e3;have t1:=hx' xs h1;have t2:=hy' ys h2;rw[hx] at t1;rw[hy] at t2;cases t1;cases t2;refine⟨_,?G5,Is.tupI ?Dt (IsL.cons (ix.mono (e1.trans (?G5).ff)) (IsL.cons (iy.mono (e1.trans (?G5).ff)) IsL.nil))⟩
  .unfold ka at w;rw[yd,Y3] at w;refine⟨xs,ys,?yR,(?Ck).seq s2,?_⟩;rw[j1.len,j2.len];lia⟩
theorem jF(hp:?Fk)(hc:?Z)(hi:?Hm)(J:Nat->Ga->Om->Prop)(h0:J 0 Γ Ω)
  (step:∀ i d Γ Ω,ds[i]?=some d->J i Γ Ω->∃ Γ1,G3 X tg Γ d Γ1/\W3 X B body Γ1 Ω {E with nx:=J (i+1),ct:=J (i+1),bk:=fun Γ' Ω'=>?DC})
  (hd:∀ Γ Ω,J ds.length Γ Ω->W3 X B rest Γ Ω E) (hs:∀ x,foldedSetIterable iter X.env x=pure x:=by intro _;rfl):W3 X B (.For tg iter body [] pos::rest) Γ Ω E:=fun F σ H S pins s I=>by
 have hgw:PG X tg (fun v σ H Q=>∀ (pins:List (Addr×Obj)) (s:Shared) (u:Value),Inv X pins σ H s->YV v u->wpAny ?AD X.A ?PV ?kB X.xe s):=fun pins s σ H v u Q I r h=>h pins s u I r;refine qd (AM hp hc hi hgw Qg hs) Qg pins s σ H _ I ⟨F,S.fh,S.sl,fun Jt H1 F1 p w=>⟨fun i m σ H=>i+m=ds.length/\nX X.K B F1 (J i) σ H,⟨?If,?A,Γ,Ω,F1,?CF,?AE,h0⟩,?_⟩⟩;rintro i m σ H ⟨hm,Γ,Ω,F2,S,f1,j⟩;obtain⟨w1,w2⟩:=w i F2 H f1 S.fh;cases z:ds[i]? with
 |none=>
  have hl:ds.length<=i:=yE.mp z;have e:i=ds.length:=by lia
  subst e;exact .inl ⟨w2 hl,qF (p.ff.trans f1) ?Od⟩
 |some d=>
  have hl:i<ds.length:=(yi.mp z).1;obtain⟨go,y⟩:=w1 d z;obtain⟨Γ1,⟨g,pg,gq⟩,wb⟩:=step i d Γ Ω z j;refine .inr ⟨go,?jX,?_,fun x H' hy pins s u I2 r=>?_⟩
  .rintro σ' H' n;exact⟨m - 1,?A,?A,n⟩
  .obtain⟨F3,p2,ix⟩:=y x H' hy;refine pg pins s σ H' x u _ I2 r (gq F3 σ H' x _ p2.fh ix (S.sl.mono p2.ff) I2.len fun σ' sl' _=>?_);have f3:Yh F1 F3:=f1.trans p2.ff;exact Qs (D:=E3.to X.K B F3 {E with nx:=J (i+1),ct:=J (i+1),bk:=fun Γ' Ω'=>?DC}) (D':={nx:=?jX,rt:=(?DO).rt,bk:=?Dr,ct:=?jX})
    ?xF (fun v H ⟨d,Ω,F,S,f,i,r⟩=>⟨d,Ω,F,S,(p.ff.trans f3).trans f,i,r⟩) (fun _ _ q=>Wj (q.mono (p.ff.trans f3))) ?xF (wb F3 σ' H' ((S.pur p2).slots sl'))
end
def KJ (nt:Nat)(caps:?DV)(Γ:Ga):Ga:=List.replicate nt none++caps.map fun i=>Γ.getD i none
def Sub (Γ Γ1:Ga):Prop:=∀ (i:Nat) (e:D),Γ[i]?=some ?D1->Γ1[i]?=some ?D1
theorem Sub.set(h:Γ[i]?=some none):Sub Γ (Γ.set i d):=fun j e q=>by
 have:i≠j:=fun z=>by subst z;rw[h] at q;cases q
 rw[qM this];exact q
theorem Sub.trans(a:Sub Γ Γ1)(b:Sub Γ1 Γ2):Sub Γ Γ2:=fun i e q=>b i e (a i e q)
theorem Sl.sub {K:?A1}{F:Hp}{Γ Γ1:Ga}{σ:?AY}(h:Sl K F Γ1 σ)(s:Sub Γ Γ1):?IJ:=fun i d q=>h i d (s i d q)
theorem Sl.cap {K:?A1}{F:Hp}{Γ:Ga}{σ:?AY}{nt:Nat}{caps:?DV}(h:?IJ):Sl K F ?DN ?IC:=fun j d q=>by
 unfold KJ at q;unfold xZ;by_cases hj:j<nt
 .rw[Qf (by simpa using hj),jq] at q;split at q <;> cases q
 .rw[qz (by simpa using hj),Q7,yz] at q;rw[qz (by simpa using hj),Q7,yz];cases ec:caps[j - nt]? with
  |none=>rw[ec] at q;cases q
  |some ci=>
   rw[ec] at q;have q':Γ.getD ci none=some d:=by simpa using q
   rw[yW] at q';have e:Γ[ci]?=some (some d):=by
    cases z:Γ[ci]? with
    |none=>rw[z] at q';cases q'
    |some w=>rw[z] at q';exact congrArg some q'
   obtain⟨v,h1,h2⟩:=h ci d e;refine⟨v,?_,h2⟩;simp[yW,h1]
def sV (X:Cx)(Γ:Ga)(ifs:?AW)(k:Bool):Prop:=PTs X ifs (tPT X.K Γ k)
theorem zU:sV X Γ [] true:=fun pins s σ H Q I ⟨F,fh,sl,q⟩=>aQ (c:=⟨0,s,H,[]⟩) pins s σ H Q I (q H F ?Ag)
theorem K8(h:?GB):sV X Γ [c] k:=Da h
def gW (X:Cx)(tg:Expr):TG:=fun v σ H Q=>∀ (pins:List (Addr×Obj)) (s:Shared) (u:Value),Inv X pins σ H s->YV v u->wpAny ?AD X.A ?PV ?kB X.xe s
def WTs (X:Cx)(ifs:?AW):TT:=fun σ H Q=>∀ (pins:List (Addr×Obj)) (s:Shared),Inv X pins σ H s->
 wpAny ?AD X.A (forIn ifs true fun c r=>if r=true then do let ok ←isTrue c X.env (eval c X.env);pure ?K7 else pure ?Hj) ?G0 X.xe s
theorem iR:PG X tg (gW X tg):=fun pins s σ H v u Q I r h=>h pins s u I r
theorem AJ:PTs X ifs (WTs X ifs):=fun pins s σ H Q I h=>h pins s I
def mD (X:Cx)(sc:?BR)(N:?A0)(tg elt:Expr)(ifs:?AW)(G:Ga)(ds:?A7)(pre:Nat->List D):Prop:=∀ (c:CArg) (i:Nat) (d:D),ds[i]?=some d->∃ Γ1,G3 ?BG tg G d Γ1/\Sub G Γ1/\
 ((∃ e,sV ?BG Γ1 ifs true/\P3 ?BG Γ1 elt e/\pre (i+1)=pre i++[e])∨(sV ?BG Γ1 ifs false/\pre (i+1)=pre i))
section
theorem aD (hz:∀ i,i<=ds.length->(pre i).length<sizeLine)(h0:pre 0=[])(step:mD X sc N tg elt ifs (KJ nt caps Γ) ds pre)
  (h:∃ F,Yh F H/\Sl X.K F Γ σ/\∀ p xs H' F',Pur F H F' H'->H p=none->F' p=none->H' p=some (.lst xs)->IsL X.K F' (pre ds.length) xs->Q (.ref p) H') :
  mG nt caps (fun σ H R=>∃ F,Yh F H/\Sl X.K F Γ σ/\∀ J H' F',Pur F H F' H'->mf X.K F' J ds->R J H') (fun c=>gW (X.comp sc N c) tg) (fun c=>WTs (X.comp sc N c) ifs) (fun c=>WE (X.comp sc N c) elt) σ H Q:=by
 obtain⟨F,fh,sl,q⟩:=h;refine⟨F,fh,sl,fun J H1 F1 p1 wk D hD c=>⟨fun i m σ' ys H'=>i+m=ds.length/\∃ F',Pur F1 H1 F' H'/\F' D=none/\H' D=some (.lst ys)/\IsL X.K F' (pre i) ys/\Sl X.K F' (KJ nt caps Γ) σ',?_,?_⟩⟩
 .exact⟨ds.length,by lia,F1,Pur.layOwn p1.fh hD,p1.fh.free hD,yX,by rw[h0];exact IsL.nil,Sl.cap (sl.mono p1.ff)⟩
 .rintro i m σ' ys H' ⟨hm,F',pu,fD,hH,il,sl'⟩;refine⟨hH,by rw[il.len];exact hz i (by lia),?_⟩;obtain⟨w1,w2⟩:=wk i F' H' pu.ff pu.fh;cases z:ds[i]? with
  |none=>
   have hl:ds.length<=i:=yE.mp z;have e:i=ds.length:=by lia
   subst e;exact .inl ⟨w2 hl,q D ys H' F' (p1.trans pu) (p1.hh.free hD) fD hH il⟩
  |some d=>
   have hl:i<ds.length:=(yi.mp z).1;obtain⟨go,y⟩:=w1 d z;obtain⟨Γ1,⟨g,pg,gq⟩,sub,alt⟩:=step c i d z;refine .inr ⟨go,fun x H2 hy pins s u I2 r=>?_⟩;obtain⟨F2,p2,ix⟩:=y x H2 hy;have keepD:∀ {F3 H3 F4 H4:Hp},Pur F3 H3 F4 H4->F3 D=none->(∃ o,H3 D=some o)->F4 D=none:=fun {F3 H3 F4 H4} pp f3 h3=>by
    cases zz:F4 D with
    |none=>rfl
    |some o=>
     rcases pp.new D (by rw[zz];simp) with w|w
     .exact absurd f3 w
     .obtain⟨o',h3⟩:=h3;rw[h3] at w;cases w
   have fD2:=keepD p2 fD ⟨_,hH⟩;have hH2:=p2.hh _ _ hH;refine pg pins s σ' H2 x u _ I2 r (gq F2 σ' H2 x _ p2.fh ix (sl'.mono p2.ff) I2.len fun σ3 sl3 _=>?_);rcases alt with ⟨e,ht,he,hpre⟩|⟨ht,hpre⟩
   .refine fun pins s I3=>ht pins s σ3 H2 _ I3 ⟨F2,p2.fh,sl3,fun H4 F4 p4=>BP ?_⟩;refine fun pins s I4=>he pins s σ3 H4 _ I4 ⟨F4,p4.fh,sl3.mono p4.ff,fun v H5 F5 p5 iv=>?_⟩;have fD5:=keepD p5 (keepD p4 fD2 ⟨_,hH2⟩) ⟨_,p4.hh _ _ hH2⟩;have hH5:=p5.hh _ _ (p4.hh _ _ hH2);have P5:=((pu.trans p2).trans p4).trans p5;refine⟨ys,hH5,by rw[il.len];exact hz i (by lia),m - 1,by lia,by lia,F5,⟨P5.ff,fun b o w=>?_,fun b o w=>?_,P5.new⟩,fD5,yX,?_,(sl3.mono (p4.ff.trans p5.ff)).sub sub⟩
    .rw[yR (Yo w fD5)];exact P5.fh _ _ w
    .rw[yR (Yo w hD)];exact P5.hh _ _ w
    .rw[hpre];exact(il.mono ((p2.ff.trans p4.ff).trans p5.ff)).append (IsL.cons iv IsL.nil)
   .refine fun pins s I3=>ht pins s σ3 H2 _ I3 ⟨F2,p2.fh,sl3,fun H4 F4 p4=>rO ?_⟩;have P4:=(pu.trans p2).trans p4;refine⟨ys,m - 1,by lia,by lia,F4,P4,keepD p4 fD2 ⟨_,hH2⟩,p4.hh _ _ hH2,?_,(sl3.mono p4.ff).sub sub⟩;rw[hpre];exact il.mono (p2.ff.trans p4.ff)
theorem Jb (S:?Ci)(hi:?Hm)(hz:∀ i,i<=ds.length->(pre i).length<sizeLine)(h0:pre 0=[])(step:?N6)(hc:?Z:=by rfl)(hX:?yE:=by rfl)(hN:X.N=XN:=by rfl)
  (hs:∀ x,foldedSetIterable iter X.env x=pure x:=by intro _;rfl):PF3 X Γ ?qG (pre ds.length):=
 PE.of (cC S hi (fun c=>iR) (fun c=>AJ) (fun c=>jl) hc hX hN hs) fun σ H Q h=>aD hz h0 step h
theorem bS(S:?Ci)(hnd:?CC)(hix:X.N[i]?=some y)(hy:?KH)(hi:?Hm)(hz:∀ i,i<=ds.length->(pre i).length<sizeLine)(h0:pre 0=[])
  (step:?N6) (h:W3 X B rest (Γ.set i (some (.lst (pre ds.length)))) Ω E)
  (hsw:swapsWith ?qG (some ?GH) spos.line X.env=pure true:=by rfl) (hc:?Z:=by rfl) (hX:?yE:=by rfl) (hN:X.N=XN:=by rfl)
  (hs:∀ x,foldedSetIterable iter X.env x=pure x:=by intro _;rfl) (hf:?uL:=by first|exact .inl rfl|exact ?By):W3 X B (.Assign [.Name y py] ?qG spos::rest) Γ Ω E:=fun F σ H S' pins s I=>by
 refine qd (mi S hnd hix hy hi (fun c=>iR) (fun c=>AJ) (fun c=>jl) hsw hc hX hN hs hf) Qg pins s σ H _ I (aD (Q:=fun x H1=>XF i x σ H1 ?Dr) hz h0 step ⟨F,S'.fh,S'.sl,fun p xs H' F' pu hp fp e il=>?_⟩);have w:Yh F' (upd F' p (.lst xs)):=fun b u q=>by rw[yR (Yo q fp)];exact q
 have wf:Yh (upd F' p (.lst xs)) H':=fun b u q=>by
  by_cases hb:b=p
  .subst hb;rw[yX] at q;cases q;exact e
  .rw[yR hb] at q;exact ?LZ
 have w2:Pur F H (upd F' p (.lst xs)) H':=by
  refine⟨?L8,wf,pu.hh,fun b q=>?_⟩;by_cases hb:b=p
  .subst hb;exact .inr hp
  .rw[yR hb] at q;exact ?Lv
 exact qF w2.ff (h _ _ H' ((S'.pur w2).slots (Sl.set (S'.sl.mono w2.ff) (by rw[I.len];exact(yi.mp hix).1) ?Jd)))
end
def vQ (ds:?A7)(lo hi:?BJ):?A7:=(ds.drop (HT.sIx ds.length 0 lo)).take (HT.sIx ds.length ds.length hi - HT.sIx ds.length 0 lo)
theorem gM {K:?A1}{F:Hp}{ds:?A7}{xs:?AL}{lo hi:?BJ}(h:?Eu):IsL K F (vQ ds lo hi) ?Ez:=by
 unfold vQ fq;rw[h.len];exact(h.drop _).take _
def PO3 (X:Cx)(Γ:Ga)(e:?F0)(i:?BJ):Prop:=PO X e fun σ H Q=>∃ F,Yh F H/\Sl X.K F Γ σ/\∀ H' F',Pur F H F' H'->Q i H'
section
variable {X:Cx}{Γ:Ga}{a e:Expr}{lo hi:?F0}{i j:?BJ}{d:D}{ds:?A7}{pos p2:Pos}
theorem PO.of {e:?F0}(h:PO X e t)(i:∀ σ H Q,?vG):PO X e u:=fun pins s σ H Q I hq=>h pins s σ H Q I ?F3
theorem VL:PO3 X Γ none none:=PO.of m9 fun σ H Q ⟨F,fh,sl,q⟩=>q H F ?Ag
theorem VA {n:Int}(h:P3 X Γ e (.int n)):PO3 X Γ ?D1 (some n):=PO.of (wZ h) fun σ H Q ⟨F,fh,sl,q⟩=>⟨F,fh,sl,fun v H' F' p i=>⟨n,isI i,?Id⟩⟩
theorem G4 {K:?A1}{σ:?AY}{H:Hp}{R:?jG}{Q:VK}(h:∃ F,Yh F H/\Sl K F Γ σ/\∀ x H2 F2,Pur F H F2 H2->Is K F2 d x->R x i j H2 Q) :
  tSl R (tP K Γ d) (fun σ H Q=>∃ F,Yh F H/\Sl K F Γ σ/\∀ H' F',Pur F H F' H'->Q i H') (fun σ H Q=>∃ F,Yh F H/\Sl K F Γ σ/\∀ H' F',Pur F H F' H'->Q j H') σ H Q:=by
 obtain⟨F,fh,sl,q⟩:=h;exact⟨F,fh,sl,fun x H1 F1 p1 i1=>⟨F1,?Bj,?DH,fun H2 F2 p2=>⟨F2,p2.fh,?JM,fun H3 F3 p3=>q x H3 F3 ((?CK).trans p3) (i1.mono ?KG)⟩⟩⟩
theorem ko (ha:?CJ)(hl:PO3 X Γ lo i)(hh:PO3 X Γ hi j):PF3 X Γ (.Subscript a ?HO pos) (vQ ds i j):=
 PE.of (uC bT ha hl hh) fun σ H Q ⟨F,fh,sl,q⟩=>G4 ⟨F,fh,sl,fun x H2 F2 p i1=>by
  obtain⟨l,xs,rfl,s1,j1⟩:=ze i1;exact⟨l,xs,rfl,?Lc,fun b hb=>q b _ _ F2 (p.trans (Pur.layOwn p.fh hb)) (p.hh.free hb) (p.fh.free hb) yX (gM j1)⟩⟩
theorem uM (ha:?I2)(hl:PO3 X Γ lo i)(hh:PO3 X Γ hi j)(hw:¬ (HT.sIx ds.length 0 i=0/\HT.sIx ds.length ds.length j=ds.length)):P3 X Γ (.Subscript a ?HO pos) (.tup (vQ ds i j)):=
 PE.of (uC FY ha hl hh) fun σ H Q ⟨F,fh,sl,q⟩=>G4 ⟨F,fh,sl,fun x H2 F2 p i1=>by
  obtain⟨l,xs,rfl,s1,j1⟩:=isT i1;exact⟨l,xs,rfl,jE p.fh s1,by rw[j1.len];exact hw,fun b hb=>q _ _ _ (p.trans (Pur.lay p.fh hb)) (Is.tupI ?Dt ((gM j1).mono (Pur.lay p.fh hb).ff))⟩⟩
end
def jw (N:?A0)(ds:?A7):Ga:=ds.map some++List.replicate (N.length - ds.length) none
theorem Sl.start {K:?A1}{F:Hp}{N:?A0}{ds:?A7}{vs:?AL}(h:IsL K F ds vs):Sl K F ?Bz ?Cw:=fun i d q=>by
 unfold jw at q;unfold L2.start;have hl:=h.len;by_cases hi:i<ds.length
 .rw[Qf (by simpa using hi),yz] at q;rw[Qf (by rw[yd,hl];exact hi),yz];cases e:ds[i]? with
  |none=>rw[e] at q;cases q
  |some d'=>
   rw[e] at q;cases q;obtain⟨v,h1,h2⟩:=h.get e;exact⟨v,by rw[h1];rfl,h2⟩
 .rw[qz (by simpa using hi),jq] at q;split at q <;> cases q
theorem Sat.entry {K:?A1}{F H:Hp}{N:?A0}{ds:?A7}{vs:?AL}(fh:Yh F H)(h:IsL K F ds vs):Sat K ?zS ?Bz [] F ?Cw H:=
 ⟨?AE,fh,fun _ q=>?Bk,fun _ _ _ e=>e,Qa,(fun _ q=>absurd q (by simp)),(fun _ q=>absurd q (by simp)),Sl.start h⟩
abbrev cx0 (P:?A6)(w:?A5)(K:?A1)(mg:?G)(base:Heap)(N:?A0)(x:Str)(st:Stmt)(f:Addr)(cdv:?AK)(A:?Ad)(outer:?CU)(s:?AI)(H:Hp)(E:XK):Cx:=(?MY).nox
section
variable {P:?A6}{w:?A5}{K:?A1}{mg:?G}{base:Heap}{x:Str}{st:Stmt}{N ps:?A0}{k n:Nat}
theorem YS(d:?F7)(S:?BW)(hn:?yI)
  (body:∀ (f:Addr) (cdv:Value) (A:Around) (outer:List Env) (s:Shared) (H:Hp) (E:XK),Room k ?Fi->∀ (ds:List D) (r:D),C ds r->∀ B:Bs,B.M=[]->
   W3 ?H9 B ?Ae ?Bz [] ?wN):OkF P w K mg base CX0 (k+1) x ps (spP K n C):=by
 refine d.ok S (fun vs H Q E h=>?Ou) fun f cdv A outer s H vs Q E hr h=>?DU
 obtain⟨ds,r,F,hC,hl,fh,il,q⟩:=h;refine Qs (D:=E3.to K ?zS F ?wN) (D':={nx:=fun _ H'=>?Aq,rt:=Q}) ?_ ?_ ?_ ?_ (body f cdv A outer s H E hr ds r hC ?zS rfl F ?Cw H ?GK)
 .rintro σ' H' ⟨Γ',Ω',F',S',f',e⟩;subst e;exact ?Og
 .rintro v H' ⟨d',Ω',F',⟨σ',S'⟩,f',i',e⟩;subst e;exact q _ _ _ ?F9 i'
 .rintro σ' H' ⟨_,_,_,_,_,z⟩;exact ?AR
 .rintro σ' H' ⟨_,_,_,_,_,z⟩;exact ?AR
end
section
end
section
theorem kQ(hN:?CC)(hi:?zF)(hx:?DL)(he:?LM)(h:∀ a,W3 X B rest ?PK ((a,?B7)::Ω) E)(hs:?vY:=by rfl)
  (hf:?yN:=by first|exact .inl rfl|exact .inr rfl|assumption):?uM:=fun F σ H S pins s I=>
 qd ?Ot Qg pins s σ H _ I ⟨F,S.fh,S.sl,fun a xs H' F' pu ha fa hH il=>by
  have S1:=S.pur pu;have nin:a∉Ω.map ?C:=fun z=>by
   obtain⟨q,hq,e⟩:=yn.mp z;obtain⟨_,o,h2,_⟩:=S.own q hq;rw[e,ha] at h2;cases h2
  refine qF pu.ff (h a F' _ H' ⟨S1.f0,S1.fh,S1.fr,S1.kp,?OD,fun q hq=>?_,fun q hq=>?_,Sl.set (S.sl.mono pu.ff) (by rw[I.len];exact(?ED).1) (ZD F')⟩)
  .rcases yG.mp hq with z|z
   .subst z;exact(S.freeB ha).symm
   .exact S1.od q z
  .rcases yG.mp hq with z|z
   .subst z;exact⟨fa,_,hH,fun F2 e=>⟨xs,rfl,?Im⟩⟩
   .exact S1.own q z⟩
theorem Sat.perm {K:?A1}{Ω':Om}{F:Hp}{σ:?AY}{H:Hp}(S:?BE)(p:Ω'.Perm Ω):Sat K B Γ Ω' F σ H:=
 ⟨S.f0,S.fh,S.fr,S.kp,(p.map _).nodup_iff.mpr S.nd,fun q hq=>S.od q (p.mem_iff.mp hq),fun q hq=>S.own q (p.mem_iff.mp hq),S.sl⟩
theorem kK(p:Ω'.Perm Ω)(h:?Ol):?P9:=fun F σ H S=>h F σ H (S.perm p)
theorem Sat.turn {K:?A1}{F:Hp}{σ:?AY}{H:Hp}{a:Addr}{w w':Ow}{o:HO}(S:Sat K B Γ ((a,w)::Ω) F σ H)(h:∀ F',Yh F F'->w' F' o):Sat K B Γ ((a,w')::Ω) F σ ?E5:=by
 obtain⟨fa,o0,ha,_⟩:=S.own (a,w) (by simp);have nin:=(?Cu).1;refine⟨S.f0,fun b u e=>?_,S.fr,fun b u hb e=>?_,S.nd,fun q hq=>?_,fun q hq=>?_,S.sl⟩
 .rw[yR (Yo e fa)];exact ?Lz
 .by_cases z:b=a
  .subst z;rcases S.od (b,w) (by simp) with y|y
   .exact ?Lg
   .have y':B.H b=none:=y;rw[y'] at e;cases e
  .rw[yR z];exact S.kp b u hb e
 .rcases yG.mp hq with z|z
  .subst z;exact S.od (a,w) (by simp)
  .exact S.od q ?D0
 .rcases yG.mp hq with z|z
  .subst z;exact⟨fa,o,yX,h⟩
  .obtain⟨h1,o',h2,h3⟩:=S.own q ?D0;have ne:q.1≠a:=fun e=>nin (yn.mpr ⟨q,z,e⟩);exact⟨h1,o',by rw[yR ne];exact h2,h3⟩
theorem JF {i:Nat}{d:D}(hi:?zF)(hv:?Em)(hΓ:?vF)(he:?Cl)(hz:ds.length<sizeLine)(h:W3 X B rest Γ ((a,YW X.K (ds++[d]))::Ω) E)
  (hs:∀ {t:TE},PE X ?yM t->PS X (.Expr ?yM pos) (fK t):=by exact fun h=>Kq h)
  (hd:?L:=by decide) (hcd:?jO:=by decide) (hst:?wO:=by rfl)
  (hp:∀ {to:TE} {ta:TA},PE X ?GP to->PA X [e] ta->PE X ?yM (tBM X.K "list" w6 to ta):=by exact fun a b=>?J8) :
  W3 X B (.Expr ?yM pos::rest) Γ ((a,?B7)::Ω) E:=fun F σ H S pins s I=>by
 obtain⟨v,e1,e2⟩:=S.sl i _ hΓ;cases isR e2;obtain⟨fa,o0,ha,ho⟩:=S.own (a,?B7) (by simp);obtain⟨xs,rfl,il⟩:=ho F ?AE;refine qd (hs (hp ?KT (yc he yr hst))) Qg pins s σ H _ I ⟨_,e1,?HS,F,S.fh,S.sl,fun vs H' F' pu iv=>?_⟩;obtain⟨y,rfl,iy⟩:=Ui iv;have S1:=S.pur pu;refine⟨a,xs,y,rfl,rfl,pu.hh _ _ ha,by rw[il.len];exact hz,qF pu.ff (h F' σ _ (S1.turn fun F2 e2=>⟨_,rfl,(?Nl).append (IsL.cons (iy.mono e2) IsL.nil)⟩))⟩
theorem j6(hΓ:?vF)(h:W3 X B sts (Γ.set i (some ?BP)) Ω E):W3 X B sts Γ ((a,?B7)::Ω) E:=fun F σ H S=>by
 obtain⟨v,e1,e2⟩:=S.sl i _ hΓ;cases isR e2;obtain⟨fa,o0,ha,ho⟩:=S.own (a,?B7) (by simp);obtain⟨xs,rfl,il⟩:=ho F ?AE;have nin:=(?Cu).1;have w:Yh F (upd F a (.lst xs)):=fun b u q=>by rw[yR (Yo q fa)];exact q
 refine qF w (h (upd F a ?Aa) σ H ⟨?IQ,fun b u q=>?_,fun b q=>?_,S.kp,(?Cu).2,fun q hq=>?GU,fun q hq=>?_,fun j d q=>?_⟩)
 .by_cases hb:b=a
  .subst hb;rw[yX] at q;cases q;exact ha
  .rw[yR hb] at q;exact ?Ib
 .by_cases hb:b=a
  .subst hb;exact(S.od (b,?B7) (by simp)).elim (fun z=>?GL) fun z=>.inr ?BY
  .rw[yR hb] at q;exact ?Gk
 .obtain⟨h1,o',h2,h3⟩:=S.own q ?Bt;have ne:q.1≠a:=fun e=>nin ?Hb;exact ?uI
 .by_cases hj:i=j
  .subst hj;rw[qN] at q;split at q
   .split at q
    .cases q;exact⟨_,e1,?Jd⟩
    .cases q
   .contradiction
  .rw[qM hj] at q;obtain⟨u,h1,h2⟩:=S.sl j d q;exact ?K2
end
inductive VR (K:?A1)(B:Bs)(Γ:Ga)(F:Hp)(σ:?AY)(R:?X)(v:V)(H':Hp):Prop
 |mk (d:D) (Ω':Om) (F':Hp) (S:?HB) (f:?FO) (i:Is K F' d v) (r:R d Ω')
inductive VTR (K:?A1)(B:Bs)(Γ:Ga)(F:Hp)(σ:?AY)(R:Bool->Om->Prop)(k:Bool)(H':Hp):Prop
 |mk (Ω':Om) (F':Hp) (S:?HB) (f:?FO) (r:R k Ω')
inductive VLR (K:?A1)(B:Bs)(Γ:Ga)(F:Hp)(σ:?AY)(R:?yS)(vs:?AL)(H':Hp):Prop
 |mk (ds:?A7) (Ω':Om) (F':Hp) (S:?HB) (f:?FO) (i:IsL K F' ds vs) (r:R ds Ω')
def V3 (X:Cx)(B:Bs)(e:Expr)(Γ:Ga)(Ω:Om)(R:?X):Prop:=∀ F σ H,Sat X.K B Γ Ω F σ H->WE X e σ H ?PA
def VT3 (X:Cx)(B:Bs)(e:Expr)(Γ:Ga)(Ω:Om)(R:Bool->Om->Prop):Prop:=∀ F σ H,Sat X.K B Γ Ω F σ H->WT X e σ H (VTR X.K B Γ F σ R)
def WL (X:Cx)(es:?AW):TA:=fun σ H Q=>∀ (pos:Pos) (pins:List (Addr×Obj)) (s:Shared),Inv X pins σ H s->wpAny ?AD X.A (spliced ?Km) (AP X pins σ Q) X.xe s
theorem iS:PA X es (WL X es):=fun pos pins s σ H Q I h=>h pos pins s I
def VL3 (X:Cx)(B:Bs)(es:?AW)(Γ:Ga)(Ω:Om)(R:?yS):Prop:=∀ F σ H,Sat X.K B Γ Ω F σ H->WL X es σ H (VLR X.K B Γ F σ R)
theorem WE.mono(h:WE X e σ H Q)(i:∀ v H,Q v H->Q' v H):WE X e σ H Q':=fun pins s I=>thn ?IX fun u s' ⟨v,H',I',r,q⟩=>?O7
theorem WT.mono(h:WT X e σ H Q)(i:∀ v H,Q v H->Q' v H):WT X e σ H Q':=fun pins s I=>thn ?IX fun u s' ⟨H',I',q⟩=>⟨H',I',i _ _ q⟩
theorem WL.mono(h:WL X e σ H Q)(i:∀ v H,Q v H->Q' v H):WL X e σ H Q':=fun p pins s I=>thn (h p pins s I) fun u s' ⟨v,H',I',r,q⟩=>?O7
theorem Sat.turnIn {K:?A1}{B:Bs}{Γ:Ga}{Ω:Om}{F:Hp}{σ:?AY}{H:Hp}{a:Addr}{w:Ow}{o:HO}(S:?BE)(m:(a,w)∈Ω)(h:∀ F',Yh F F'->w F' o):Sat K B Γ Ω F σ ?E5:=by
 obtain⟨fa,o0,ha,_⟩:=S.own (a,w) m;refine⟨S.f0,fun b u e=>?_,S.fr,fun b u hb e=>?_,S.nd,S.od,fun q hq=>?_,S.sl⟩
 .rw[yR (Yo e fa)];exact ?Lz
 .by_cases z:b=a
  .subst z;rcases S.od (b,w) m with y|y
   .exact ?Lg
   .have y':B.H b=none:=y;rw[y'] at e;cases e
  .rw[yR z];exact S.kp b u hb e
 .obtain⟨h1,o',h2,h3⟩:=S.own q hq;by_cases z:q.1=a
  .have e:q=(a,w):=by
    have nd:=S.nd
    clear h1 h2 h3 ha fa h
    induction Ω with
    |nil=>cases hq
    |cons r Ω ih=>
     rw[yt,Yi] at nd;rcases yG.mp hq with y|y
     .rcases yG.mp m with y2|y2
      .rw[y,y2]
      .exact absurd (yn.mpr ⟨(a,w),y2,by rw[←y,z]⟩) nd.1
     .rcases yG.mp m with y2|y2
      .exact absurd (yn.mpr ⟨q,y,by rw[z,←y2]⟩) nd.1
      .exact ih ⟨S.f0,S.fh,S.fr,S.kp,nd.2,fun q hq=>?GU,fun q hq=>S.own q ?Bt,S.sl⟩ y2 y nd.2
   subst e;exact⟨fa,o,yX,h⟩
  .exact⟨h1,o',by rw[yR z];exact h2,h3⟩
section
variable {X:Cx}{B:Bs}{Γ:Ga}{Ω:Om}{E:E3}{rest body:?Aw}{a b c e:Expr}{es:?AW}{d:D}{ds:?A7}{pos pos' p:Pos}{R:?X}{RL:?yS}{RT:Bool->Om->Prop}{k:Bool}
theorem Yn (h:?Cl)(r:R d Ω):?Eg:=fun F σ H S=>h.we ⟨F,S.fh,S.sl,fun v H' F' p i=>⟨d,Ω,F',?CF,p.ff,i,r⟩⟩
theorem V3.imp(h:?Eg)(i:∀ d Ω',R d Ω'->R' d Ω'):V3 X B e Γ Ω R':=fun F σ H S=>(?AP).mono fun v H' ⟨d,Ω',F',S',f,iv,r⟩=>⟨d,Ω',F',S',f,iv,i _ _ r⟩
theorem Hw(ho:?Jk)(h:V3 X B a Γ Ω fun d Ω1=>V3 X B b Γ Ω1 fun d' Ω2=>∃ d3,(∀ x y H F Q,?xY)/\R d3 Ω2):V3 X B ?JI Γ Ω R:=fun F σ H S pins s I=>
 uP ho jl jl pins s σ H _ I ((?AP).mono fun x H1 ⟨d,Ω1,F1,S1,f1,i1,h1⟩=>(?Ba).mono fun y H2 ⟨d',Ω2,F2,S2,f2,i2,d3,hr,q⟩=>
  hr x y H2 F2 _ S2.fh ?Dz i2 fun v H' F' p i=>⟨d3,Ω2,F',S2.pur p,(?Cn).trans p.ff,i,q⟩)
theorem X2 (h:V3 X B a Γ Ω fun d Ω1=>∃ i,d=.int i/\V3 X B b Γ Ω1 fun d' Ω2=>∃ j,d'=.int j/\R (.int (i+j)) Ω2):V3 X B ?Fm Γ Ω R:=
 Hw gN (h.imp fun d Ω1 ⟨i,e,h⟩=>h.imp fun d' Ω2 ⟨j,e',r⟩=>⟨_,fun x y H F Q fh i1 i2 k=>by subst e e';exact⟨i,j,?FU,?CW,?P3⟩,r⟩)
theorem qT (h:?G1)(r:RL ds Ω):VL3 X B es Γ Ω RL:=fun F σ H S pos pins s I=>h pos pins s σ H _ I ⟨F,S.fh,S.sl,fun v H' F' p i=>⟨ds,Ω,F',?CF,p.ff,i,r⟩⟩
theorem YL (h:V3 X B e Γ Ω fun d Ω1=>VL3 X B es Γ Ω1 fun ds Ω2=>RL (d::ds) Ω2)(hs:?T:=by rfl):VL3 X B (e::es) Γ Ω RL:=fun F σ H S pos pins s I=>
 zY jl iS hs pos pins s σ H _ I ((?AP).mono fun x H1 ⟨d,Ω1,F1,S1,f1,i1,h1⟩=>(?Ba).mono fun xs H2 ⟨ds,Ω2,F2,S2,f2,i2,r⟩=>⟨d::ds,Ω2,F2,S2,?Cn,IsL.cons ?Dz i2,r⟩)
theorem ax(h:VL3 X B es Γ Ω fun ds Ω1=>ds.length<=sizeLine/\R ?CA Ω1):V3 X B ?KN Γ Ω R:=fun F σ H S pins s I=>
 bg iS pins s σ H _ I ((?AP).mono fun xs H1 ⟨ds,Ω1,F1,S1,f1,i1,hz,r⟩=>⟨?xE,fun q hq=>⟨?CA,Ω1,_,S1.pur ?Ej,f1.trans (?Ej).ff,Is.tupI ?Dt (i1.mono (?Ej).ff),r⟩⟩)
theorem Ux {n k:Nat}(o:?MU)(hr:?Am)(hg:?Ai)(h:VL3 X B (e::es) Γ Ω fun ds Ω1=>∃ d,C ds d/\ds.length=n/\R d Ω1)(hdb:?L:=by decide)
  (he:?T:=by rfl) (hpl:?zA:=by rfl):?HU:=fun F σ H S pins s I=>
 wg o hr hg iS hdb he hpl pins s σ H _ I ((?AP).mono fun vs H1 ⟨ds,Ω1,F1,S1,f1,i1,d,hC,hn,r⟩=>by
  rw[yM];exact⟨ds,d,F1,hC,hn,S1.fh,i1,fun v H2 F2 p2 i2=>⟨d,Ω1,F2,?Gg,f1.trans p2.ff,i2,r⟩⟩)
theorem A1 (h:V3 X B a Γ Ω fun d Ω1=>∃ ds,d=.lst ds/\V3 X B b Γ Ω1 fun d' Ω2=>∃ i e,d'=.int i/\atI ds i=some e/\R e Ω2)(hs:Vz b:=by exact ?yV):V3 X B ?Dn Γ Ω R:=fun F σ H S pins s I=>
 lR uH jl jl hs pins s σ H _ I ((?AP).mono fun x H1 ⟨d,Ω1,F1,S1,f1,i1,ds,e1,h1⟩=>(?Ba).mono fun y H2 ⟨d',Ω2,F2,S2,f2,i2,j,e,e2,e3,q⟩=>by
  subst e1 e2;obtain⟨l,xs,rfl,s1,j1⟩:=ze ?Dz;obtain⟨v,v1,v2⟩:=h8 j1 e3;exact⟨l,xs,j,v,rfl,?CW,S2.fh.seq s1,v1,e,Ω2,F2,S2,?Cn,v2,q⟩)
theorem GL {op:CmpOp}{r:R2}(ho:?EY)(h:V3 X B a Γ Ω fun d Ω1=>V3 X B b Γ Ω1 fun d' Ω2=>∃ k,(∀ x y H F Q,?uF)/\RT k Ω2)
  (hm:?qJ:=by first|exact UD _|with_unfolding_all rfl):VT3 X B ?jR Γ Ω RT:=fun F σ H S pins s I=>
 Wg ho jl jl hm pins s σ H _ I ((?AP).mono fun x H1 ⟨d,Ω1,F1,S1,f1,i1,h1⟩=>(?Ba).mono fun y H2 ⟨d',Ω2,F2,S2,f2,i2,k,hr,q⟩=>hr x y H2 F2 _ S2.fh ?Dz i2 ⟨k,rfl,Ω2,F2,S2,?Cn,q⟩)
theorem GZ(ho:?EY)(h:V3 X B a Γ Ω fun d Ω1=>V3 X B b Γ Ω1 fun d' Ω2=>∃ k,(∀ x y H F Q,?uF)/\R (.bl k) Ω2)
  (hm:?qJ:=by first|exact UD _|with_unfolding_all rfl):V3 X B ?jR Γ Ω R:=fun F σ H S pins s I=>
 nB ho jl jl hm pins s σ H _ I ((?AP).mono fun x H1 ⟨d,Ω1,F1,S1,f1,i1,h1⟩=>(?Ba).mono fun y H2 ⟨d',Ω2,F2,S2,f2,i2,k,hr,q⟩=>hr x y H2 F2 _ S2.fh ?Dz i2 ⟨.bl k,Ω2,F2,S2,?Cn,Wr F2,q⟩)
theorem ot {g:Int->Int->Bool}{i j:Int}:∀ (x y:V) (H F:Hp) (Q:VK),Yh F H->Is X.K F ?Ca x->Is X.K F (.int j) y->Q (.bl ?BB) H->rI0 (fun i j=>.bl ?BB) x y H Q:=fun x y H F Q fh i1 i2 q=>⟨i,j,?FU,?CW,q⟩
theorem QQ(hN:?CC)(hi:?zF)(hx:?DL)(h:V3 X B e Γ Ω fun d Ω1=>W3 X B rest ?Fx Ω1 E)(hs:?vY:=by rfl)
  (hf:?yN:=by first|exact .inl rfl|exact .inr rfl|assumption):?uM:=fun F σ H S pins s I=>
 qd (gG hN hi hx jl hs hf) Qg pins s σ H _ I ((?AP).mono fun v H1 ⟨d,Ω1,F1,S1,f1,i1,h1⟩=>qF f1 (h1 F1 _ H1 (S1.slots (Sl.set S1.sl (by rw[I.len];exact(?ED).1) i1))))
theorem F7(h:V3 X B e Γ Ω fun d Ω1=>∃ Γ1,G3 X tg Γ d Γ1/\W3 X B rest Γ1 Ω1 E)(hs:swapsWithSole [tg] e spos.line X.env=pure false:=by rfl)(hw:swappedStores [tg] e X.env=pure none:=by rfl)
  (h1:(assignEach [tg] X.env).map ?zC=[assign tg X.env]:=by rfl):W3 X B (.Assign [tg] e spos::rest) Γ Ω E:=fun F σ H S pins s I=>
 qd (bJ jl iR hs hw h1) Qg pins s σ H _ I ((?AP).mono fun v H1 ⟨d,Ω1,F1,S1,f1,i1,Γ1,⟨g,pg,gq⟩,h1⟩=>fun pins s u I2 r=>pg pins s σ H1 v u _ I2 r (gq F1 σ H1 v _ S1.fh i1 S1.sl I2.len fun σ' sl' _=>qF f1 (h1 F1 σ' H1 (S1.slots sl'))))
theorem vp (h:V3 X B e Γ Ω E.rt):W3 X B (.Return ?D1 pos::rest) Γ Ω E:=fun F σ H S pins s I=>
 qd (bW jl) Kp pins s σ H _ I ((?AP).mono fun v H1 ⟨d,Ω1,F1,S1,f1,i1,h1⟩=>⟨d,Ω1,F1,⟨σ,S1.slots Sl.nil⟩,f1,i1,h1⟩)
theorem U4 {a b:?Aw}(h:VT3 X B c Γ Ω fun k Ω1=>(k=true->W3 X B a Γ Ω1 ?Ek)/\(k=false->W3 X B b Γ Ω1 ?Ek)):?tD:=fun F σ H S pins s I=>
 qd (Aa G9 Qg Qg) Qg pins s σ H _ I ((?AP).mono fun k H1 ⟨Ω1,F1,S1,f1,h1,h2⟩=>by
  cases k with
  |true=>exact BP (uZ (qF f1 (h1 rfl F1 σ H1 S1)))
  |false=>exact rO (uZ (qF f1 (h2 rfl F1 σ H1 S1))))
end
theorem Sat.freeze {K:?A1}{B:Bs}{Γ:Ga}{Ω:Om}{F:Hp}{σ:?AY}{H:Hp}{a:Addr}{ds:?A7}(S:Sat K B Γ ((a,?Gp)::Ω) F σ H):∃ F',Sat K B Γ Ω F' σ H/\Yh F F'/\Is K F' ?BP ?AB:=by
 obtain⟨fa,o0,ha,ho⟩:=S.own (a,?Gp) (by simp);obtain⟨xs,rfl,il⟩:=ho F ?AE;have nin:=(?Cu).1;have w:Yh F (upd F a (.lst xs)):=fun b u q=>by rw[yR (Yo q fa)];exact q
 refine⟨upd F a ?Aa,⟨?IQ,fun b u q=>?_,fun b q=>?_,S.kp,(?Cu).2,fun q hq=>?GU,fun q hq=>?_,S.sl.mono w⟩,w,?Jd⟩
 .by_cases hb:b=a
  .subst hb;rw[yX] at q;cases q;exact ha
  .rw[yR hb] at q;exact ?Ib
 .by_cases hb:b=a
  .subst hb;exact(S.od (b,?Gp) (by simp)).elim (fun z=>?GL) fun z=>.inr ?BY
  .rw[yR hb] at q;exact ?Gk
 .obtain⟨h1,o',h2,h3⟩:=S.own q ?Bt;have ne:q.1≠a:=fun e=>nin ?Hb;exact ?uI
theorem Sat.new {K:?A1}{B:Bs}{Γ:Ga}{Ω:Om}{F F':Hp}{σ:?AY}{H H':Hp}{a:Addr}{w:Ow}{o:HO}(S:?BE)(pu:?LL)(ha:H a=none)(fa:F' a=none)(hH:H' a=some o)(h:∀ F2,Yh F' F2->w F2 o):Sat K B Γ ((a,w)::Ω) F' σ H':=by
 have S1:=S.pur pu;have nin:a∉Ω.map ?C:=fun z=>by
  obtain⟨q,hq,e⟩:=yn.mp z;obtain⟨_,o,h2,_⟩:=S.own q hq;rw[e,ha] at h2;cases h2
 refine⟨S1.f0,S1.fh,S1.fr,S1.kp,?OD,fun q hq=>?_,fun q hq=>?_,S1.sl⟩
 .rcases yG.mp hq with z|z
  .subst z;exact(S.freeB ha).symm
  .exact S1.od q z
 .rcases yG.mp hq with z|z
  .subst z;exact⟨fa,_,hH,h⟩
  .exact S1.own q z
def WI (X:Cx)(tg iter:Expr):TI:=fun σ H R=>∀ (pins:List (Addr×Obj)) (s:Shared),Inv X pins σ H s->wpAny ?AD X.A (eval iter X.env) (fun v s1=>?MV) X.xe s
theorem CC:PI X tg iter (WI X tg iter):=fun pins s σ H R I h=>h pins s I
theorem WI.mono(h:WI X tg iter σ H R)(i:∀ J H,R J H->R' J H):WI X tg iter σ H R':=fun pins s I=>thn ?IX fun v s1 h1=>thn h1 fun itv s2 ⟨it,fp,tn,J,H',e,I',T,t0,f,r⟩=>⟨it,fp,tn,J,H',e,I',T,t0,f,i _ _ r⟩
inductive IVR (K:?A1)(B:Bs)(Γ:Ga)(F:Hp)(σ:?AY)(R:?yS)(J:It)(H':Hp):Prop
 |mk (ds:?A7) (Ω':Om) (F':Hp) (S:?HB) (f:?FO) (i:mf K F' J ds) (r:R ds Ω')
def IV3 (X:Cx)(B:Bs)(tg iter:Expr)(Γ:Ga)(Ω:Om)(R:?yS):Prop:=∀ F σ H,Sat X.K B Γ Ω F σ H->WI X tg iter σ H (IVR X.K B Γ F σ R)
section
theorem bO (h:?Hm)(r:RL ds Ω):IV3 X B tg iter Γ Ω RL:=fun F σ H S pins s I=>h pins s σ H _ I ⟨F,S.fh,S.sl,fun J H' F' p w=>⟨ds,Ω,F',?CF,p.ff,w,r⟩⟩
theorem Ug (hm:?qM)(hg:?qV)(h:V3 X B a Γ Ω fun d Ω1=>∃ j:Int,d=.int j/\-(2 ^ 62)<=j/\j<2 ^ 62/\RL (wN 0 j.toNat) Ω1)(hs:?jF:=by rfl):IV3 X B tg ?kO Γ Ω RL:=fun F σ H S pins s I=>
 ah hg hm (zY jl Vs hs) hs pins s σ H _ I ((?AP).mono fun v H1 ⟨d,Ω1,F1,S1,f1,i1,j,e,b1,b2,r⟩=>by
  subst e;exact⟨j,by rw[isI i1],b1,b2,_,Ω1,F1,S1,f1,Wt,r⟩)
theorem kE (hp:?Fk)(hc:?Z)
  (h:IV3 X B tg iter Γ Ω fun ds Ω1=>∃ J:Nat->Ga->Om->Prop,J 0 Γ Ω1/\(∀ i d Γ Ω,ds[i]?=some d->J i Γ Ω->∃ Γ1,G3 X tg Γ d Γ1/\W3 X B body Γ1 Ω {E with nx:=J (i+1),ct:=J (i+1),bk:=fun Γ' Ω'=>?DC})/\∀ Γ Ω,J ds.length Γ Ω->W3 X B rest Γ Ω E)
  (hs:∀ x,foldedSetIterable iter X.env x=pure x:=by intro _;rfl):W3 X B (.For tg iter body [] pos::rest) Γ Ω E:=fun F σ H S pins s I=>by
 refine qd (AM hp hc CC iR Qg hs) Qg pins s σ H _ I ((?AP).mono fun Jt H1 ⟨ds,Ω1,F1,S1,p1,w,J,h0,step,hd⟩=>⟨fun i m σ H=>i+m=ds.length/\nX X.K B F1 (J i) σ H,⟨?If,?A,Γ,Ω1,F1,S1,?AE,h0⟩,?_⟩);rintro i m σ H ⟨hm,Γ,Ω,F2,S,f1,j⟩;obtain⟨w1,w2⟩:=w i F2 H f1 S.fh;cases z:ds[i]? with
 |none=>
  have hl:ds.length<=i:=yE.mp z;have e:i=ds.length:=by lia
  subst e;exact .inl ⟨w2 hl,qF (p1.trans f1) ?Od⟩
 |some d=>
  have hl:i<ds.length:=(yi.mp z).1;obtain⟨go,y⟩:=w1 d z;obtain⟨Γ1,⟨g,pg,gq⟩,wb⟩:=step i d Γ Ω z j;refine .inr ⟨go,?jX,?_,fun x H' hy pins s u I2 r=>?_⟩
  .rintro σ' H' n;exact⟨m - 1,?A,?A,n⟩
  .obtain⟨F3,p2,ix⟩:=y x H' hy;refine pg pins s σ H' x u _ I2 r (gq F3 σ H' x _ p2.fh ix (S.sl.mono p2.ff) I2.len fun σ' sl' _=>?_);have f3:Yh F1 F3:=f1.trans p2.ff;exact Qs (D:=E3.to X.K B F3 {E with nx:=J (i+1),ct:=J (i+1),bk:=fun Γ' Ω'=>?DC}) (D':={nx:=?jX,rt:=(?DO).rt,bk:=?Dr,ct:=?jX})
    ?xF (fun v H ⟨d,Ω,F,S,f,i,r⟩=>⟨d,Ω,F,S,(p1.trans f3).trans f,i,r⟩) (fun _ _ q=>Wj (q.mono (p1.trans f3))) ?xF (wb F3 σ' H' ((S.pur p2).slots sl'))
theorem ut (h:?LM)(r:∀ a,R ?Av ((a,?B7)::Ω)):?Eg:=fun F σ H S pins s I=>h pins s σ H _ I ⟨F,S.fh,S.sl,fun a xs H' F' pu ha fa hH il=>⟨_,_,F',S.new pu ha fa hH (fun F2 e=>⟨xs,rfl,?Im⟩),pu.ff,ZD F',r a⟩⟩
theorem Fu {sc SX:?BR}{N XN:?A0}{nt:Nat}{caps:?DV}(S:?Ci)
  (h:IV3 X B tg iter Γ Ω fun ds Ω1=>∃ J:Nat->List D->Om->Prop,J 0 [] Ω1/\?uR/\
   (∀ c i d gs Ω',ds[i]?=some d->J i gs Ω'->∃ Γ1,G3 ?BG tg ?DN d Γ1/\Sub ?DN Γ1/\∀ q:Addr×Ow,V3 ?BG B elt Γ1 (q::Ω') fun e Ω2=>∃ Ω3,Ω2.Perm (q::Ω3)/\J (i+1) (gs++[e]) Ω3)/\
   ∀ a gs Ω',J ds.length gs Ω'->R ?Av ((a,?B5)::Ω'))
  (hc:?Z:=by rfl) (hX:?yE:=by rfl) (hN:X.N=XN:=by rfl) (hs:∀ x,foldedSetIterable iter X.env x=pure x:=by intro _;rfl):V3 X B ?uY Γ Ω R:=fun F σ H S0 pins s I=>by
 refine cC S CC (fun c=>iR) (fun c=>aQ (c:=c)) (fun c=>jl) hc hX hN hs pins s σ H _ I ((h F σ H S0).mono fun Jt H1 ⟨ds,Ω1,F1,S1,p1,w,J,h0,hz,step,hd⟩ D hD c=>
  ⟨fun i m σ' ys H'=>i+m=ds.length/\∃ gs Ω' F',Yh F1 F'/\Sat X.K B (KJ nt caps Γ) ((D,?B5)::Ω') F' σ' H'/\H' D=some (.lst ys)/\IsL X.K F' gs ys/\J i gs Ω',?_,?_⟩)
 .refine⟨?If,?A,[],Ω1,F1,?AE,?_,yX,?CR,h0⟩;exact(S1.new ?Om hD (S1.fh.free hD) yX fun F2 e=>⟨[],rfl,?CR⟩).slots (Sl.cap S1.sl)
 .rintro i m σ' ys H' ⟨hm,gs,Ω',F',f',S',hH,il,j⟩;refine⟨hH,by rw[il.len];exact ?ID,?_⟩;obtain⟨w1,w2⟩:=w i F' H' f' S'.fh;cases z:ds[i]? with
  |none=>
   have hl:ds.length<=i:=yE.mp z;have e:i=ds.length:=by lia
   subst e;exact .inl ⟨w2 hl,.raw (.ref D),_,F',?Nx,p1.trans f',ZD F',hd D gs Ω' j⟩
  |some d=>
   have hl:i<ds.length:=(yi.mp z).1;obtain⟨go,y⟩:=w1 d z;obtain⟨Γ1,⟨g,pg,gq⟩,sub,he⟩:=step c i d gs Ω' z j;refine .inr ⟨go,fun x H2 hy pins s u I2 r=>?_⟩;obtain⟨F2,p2,ix⟩:=y x H2 hy;refine pg pins s σ' H2 x u _ I2 r (gq F2 σ' H2 x _ p2.fh ix (S'.sl.mono p2.ff) I2.len fun σ3 sl3 _=>?_);unfold mC;dsimp only;rw[yf rfl];refine WE.mono (he (D,?B5) F2 σ3 H2 ((S'.pur p2).slots sl3)) fun v H5 ⟨e,Ω2,F5,S5,f5,iv,Ω3,pm,j5⟩=>?_;have S5':=S5.perm pm.symm;obtain⟨fD,o,hD5,ho⟩:=S5'.own (D,?B5) (by simp);obtain⟨ys',rfl,il'⟩:=ho F5 ?AE;refine⟨ys',hD5,by rw[il'.len];exact ?ID,m - 1,?A,?A,gs++[e],Ω3,F5,?Nf,?_,yX,il'.append ?K3,j5⟩;exact(S5'.turn fun F6 e6=>⟨_,rfl,(il'.mono e6).append ?NO⟩).slots (S5'.sl.sub sub)
theorem V3.frozen (h:V3 X B e Γ Ω fun d Ω'=>∃ a gs Ω2,d=.raw ?AB/\Ω'=(a,?B5)::Ω2/\R (.lst gs) Ω2):?Eg:=fun F σ H S=>(?AP).mono fun v H' ⟨d,Ω',F',S',f,iv,a,gs,Ω2,e1,e2,r⟩=>by
 subst e1 e2;obtain⟨F2,S2,f2,i2⟩:=S'.freeze;cases isR iv;exact⟨_,Ω2,F2,S2,f.trans f2,i2,r⟩
theorem pP {o i:Expr}{spos tpos:Pos}(h:V3 X B e Γ Ω fun d Ω1=>V3 X B o Γ Ω1 fun dq Ω2=>∃ l,dq=.raw ?Bh/\V3 X B i Γ Ω2 fun di Ω3=>∃ k j ds Ω4,di=.int k/\Ω3.Perm ((l,?B7)::Ω4)/\ixN ds.length k=some j/\W3 X B rest Γ ((l,YW X.K (ds.set j d))::Ω4) E)
  (hs:swapsWithSole [.Subscript o i tpos] e spos.line X.env=pure false:=by rfl) (hw:swappedStores [.Subscript o i tpos] e X.env=pure none:=by rfl) (h1:(assignEach [.Subscript o i tpos] X.env).map ?zC=[assign ?Fq X.env]:=by rfl)
  (ha:∀ v,assign ?Fq X.env v=(do
   let ov ←holding [v] (eval o X.env)
   let iv ←holding [v,ov] (eval i X.env)
   standAt tpos
   holding [v,ov,iv] ?KU
   release [v,ov,iv] []):=by intro _;rfl):?uG:=fun F σ H S pins s I=>
 qd (bJ jl (gh jl jl fk ha) hs hw h1) Qg pins s σ H _ I ((?AP).mono fun v H1 ⟨d,Ω1,F1,S1,f1,i1,h1⟩=>(?Ba).mono fun y H2 ⟨dq,Ω2,F2,S2,f2,i2,l,e2,h2⟩=>(h2 F2 σ H2 S2).mono fun z H3 ⟨di,Ω3,F3,S3,f3,i3,k,j,ds,Ω4,e3,pm,hj,h3⟩=>by
  subst e2 e3;cases isR i2;have S4:=S3.perm pm.symm;obtain⟨fa,o',ha',ho⟩:=S4.own (l,?B7) (by simp);obtain⟨xs,rfl,il⟩:=ho F3 ?AE;refine⟨l,xs,k,j,rfl,isI i3,ha',by rw[il.len];exact hj,?_⟩;exact qF ?EZ (h3 F3 σ _ (S4.turn fun F5 e5=>⟨_,rfl,(?M2).set j ?N4⟩)))
theorem oi {i:Nat}(hi:?zF)(hv:?Em)(hΓ:Γ[i]?=some (some ?Ah))(hm:(l,w)∈Ω)(hw:∀ F o,w F o->∃ xs,o=.lst xs)
  (h:V3 X B e Γ Ω fun d Ω1=>∃ ds Ω2,Ω1.Perm ((l,?B7)::Ω2)/\ds.length<sizeLine/\W3 X B rest Γ ((l,YW X.K (ds++[d]))::Ω2) E)
  (hs:∀ {t:TE},PE X ?yM t->PS X (.Expr ?yM pos) (fK t):=by exact fun h=>Kq h)
  (hd:?L:=by decide) (hcd:?jO:=by decide) (hst:?wO:=by rfl)
  (hp:∀ {to:TE} {ta:TA},PE X ?GP to->PA X [e] ta->PE X ?yM (tBM X.K "list" w6 to ta):=by exact fun a b=>?J8) :
  W3 X B (.Expr ?yM pos::rest) Γ Ω E:=fun F σ H S pins s I=>by
 obtain⟨v,e1,e2⟩:=S.sl i _ hΓ;cases isR e2;obtain⟨fa,o0,ha,ho⟩:=S.own _ hm;obtain⟨xs0,rfl⟩:=hw F o0 (ho F ?AE);refine qd (hs (hp ?KT (zY jl Vs hst))) Qg pins s σ H _ I ⟨_,e1,?HS,(?AP).mono fun y H1 ⟨d,Ω1,F1,S1,f1,i1,ds,Ω2,pm,hz,h1⟩=>?_⟩;have S2:=S1.perm pm.symm;obtain⟨fa',o',ha',ho'⟩:=S2.own (l,?B7) (by simp);obtain⟨xs,rfl,il⟩:=ho' F1 ?AE;exact⟨l,xs,y,rfl,rfl,ha',by rw[il.len];exact hz,qF f1 (h1 F1 σ _ (S2.turn fun F2 e2=>⟨_,rfl,(il.mono e2).append (IsL.cons (i1.mono e2) IsL.nil)⟩))⟩
end
def sh (q:Rat):D:=.tup [.int q.num,.int (q.den:Int)]
def Sz (n:Nat)(q:Rat):Prop:=q.num.natAbs<2 ^ n/\q.den<2 ^ n
theorem Sz.mono {q:Rat}(h:Sz m q)(l:m<=n):?CX:=
 ⟨Yc h.1 (YU ?B l),Yc h.2 (YU ?B l)⟩
theorem WG {x:Int}(h:x.natAbs<2 ^ n):Builtin.Int.intBits x<=n:=PySem.intBits_le_iff.mpr h
theorem JZ {a b:Int}(ha:a.natAbs<2 ^ m)(hb:b.natAbs<2 ^ n)(h:m+n<=134217728):IntMulOk a b:=PySem.IntMulOk.of_le (WG ha) (WG hb) h
theorem rJ (m n:Nat):2 ^ (m+n)=2 ^ m*2 ^ n:=jk 2 m n
theorem QZ {a b:Int}{m n:Nat}(ha:a.natAbs<2 ^ m)(hb:b.natAbs<2 ^ n):(a*b).natAbs<2 ^ (m+n):=by
 rw[Int.natAbs_mul,rJ];exact Nat.mul_lt_mul'' ha hb
theorem zI {t b:Int}(hb:0<b)(h1:t.natAbs<2 ^ n)(h2:b.natAbs<2 ^ n):Sz n ?Ch:=by
 constructor
 .rw[Rat.num_divInt,Int.sign_eq_one_of_pos hb,Int.one_mul];refine QS ?_ h1;rw[Int.natAbs_ediv_of_dvd (Int.gcd_dvd_right _ _)];exact ?Oo
 .rw[Rat.den_divInt,ye ?A];exact QS ?Oo h2
theorem bR {p q:Rat}(hp:?EL)(hq:?CX):Sz (m+n+1) (p+q):=by
 rw[←My.q_add];have a1:=QZ hp.1 ?jH;have a2:=QZ hq.1 ?jI;have a3:=QZ ?jI ?jH;rw[Nat.add_comm n m] at a2;have e:2 ^ (m+n+1)=2 ^ (m+n)+2 ^ (m+n):=by rw[QJ];lia
 refine ?OE
 .rw[e];refine QS (Int.natAbs_add_le _ _) ?_;lia
 .rw[e];lia
theorem iZ {p q:Rat}(hp:?EL)(hq:?CX):Sz (m+n+1) (p - q):=by
 rw[←My.q_sub];have a1:=QZ hp.1 ?jH;have a2:=QZ hq.1 ?jI;have a3:=QZ ?jI ?jH;rw[Nat.add_comm n m] at a2;have e:2 ^ (m+n+1)=2 ^ (m+n)+2 ^ (m+n):=by rw[QJ];lia
 refine ?OE
 .rw[e];refine QS (Int.natAbs_sub_le _ _) ?_;lia
 .rw[e];lia
theorem K7 {p q:Rat}(hp:?EL)(hq:?CX):Sz (m+n) (p*q):=by
 rw[←My.q_mul];exact zI (Qm ?Bq ?Bb) (QZ hp.1 hq.1) (QZ ?jI ?jH)
theorem xq {p q:Rat}(hp:?EL)(hq:?CX)(h0:0<q):Sz (m+n) (p / q):=by
 rw[←My.q_div];exact zI (Qm ?Bq (My.q_num_pos h0)) (QZ hp.1 ?jH) (QZ ?jI hq.1)
theorem Xw:Sz 1 0:=by constructor <;> decide
theorem gU:Sz 1 1:=by constructor <;> decide
theorem ky {p q:Rat}(a:0<=p)(b:0<=q):0<=p+q:=by grind
theorem ZB {p q:Rat}(a:0<=p)(b:0<=q):0<=p*q:=Rat.mul_nonneg a b
theorem uz {p q:Rat}(a:0<=p)(b:0<q):0<=p / q:=by
 rw[jO];exact Rat.mul_nonneg a (YH (Rat.inv_pos.mpr b))
abbrev big:Nat:=67108864
def GX:?H:=fun ds d=>∃ a b:Int,ds=[.int a,.int b]/\d=.int (My.G a b)/\0<=a/\0<=b
def mw:?H:=fun ds d=>∃ t b:Int,ds=[.int t,.int b]/\d=sh ?Ch/\0<=t/\0<b
def CV (f:Rat->Rat->Rat)(C:Rat->Rat->Prop):?H:=fun ds d=>∃ (p q:Rat) (m n:Nat),ds=[sh p,sh q]/\d=sh (f p q)/\0<=p/\0<=q/\Sz m p/\Sz n q/\m<=big/\n<=big/\C p q
abbrev nj:=CV (fun p q=>p+q) fun _ _=>True
abbrev lX:=CV (fun p q=>p*q) fun _ _=>True
abbrev iG:=CV (fun p q=>p - q) fun p q=>q<=p
abbrev AL:=CV (fun p q=>p / q) fun _ q=>0<q
def Gg:?H:=fun ds d=>∃ (p q:Rat) (m n:Nat),ds=[sh p,sh q]/\d=.bl (decide (p<q))/\Sz m p/\Sz n q/\m<=big/\n<=big
theorem j9 {q:Rat}(h:?CX):((q.den:Int)).natAbs<2 ^ n:=h.2
theorem UA {p q:Rat}(hp:?EL)(hq:?CX)(h1:m<=big)(h2:n<=big):IntMulOk p.num q.den:=JZ hp.1 (j9 hq) (by have:big=67108864:=rfl;lia)
theorem rB {p q:Rat}(hp:?EL)(hq:?CX)(h1:m<=big)(h2:n<=big):IntMulOk p.num q.num:=JZ hp.1 hq.1 (by have:big=67108864:=rfl;lia)
theorem bM {p q:Rat}(hp:?EL)(hq:?CX)(h1:m<=big)(h2:n<=big):IntMulOk p.den q.den:=JZ (j9 hp) (j9 hq) (by have:big=67108864:=rfl;lia)
theorem bK {p q:Rat}(h:sh p=sh q):p=q:=by
 unfold sh at h;simp only[D.tup.injEq,List.cons.injEq,D.int.injEq,and_true] at h;exact My.q_inj h.1 h.2
theorem QL {p q:Rat}:qD (sh p) (sh q)=decide (p=q):=by
 by_cases h:p=q
 .subst h;rw[J2 (by rfl)];simp
 .rw[aX (fun z=>h (bK z)),yA h]
theorem Ja {p q:Rat}:kin (sh p) (sh q)=true:=by rfl
theorem Jg {p:Rat}:dep (sh p)<=60:=by
 show max 0 (max 0 0)+1<=60;decide
def Zy:Ow:=fun _ o=>∃ x:Int,o=.lst [.int x]/\0<=x/\x<2147483647
def rK:Sp:=fun vs H Q _=>∃ (a:Addr) (m x:Int),vs=[.ref a,.int m]/\0<m/\m<1073741824/\H a=some (.lst [.int x])/\0<=x/\x<2147483647/\∀ x' r:Int,0<=x'->x'<2147483647->0<=r->r<m->Q (.int r) (upd H a (.lst [.int x']))
theorem Vp {m:Int}(o:OkF X.prog X.w X.K X.mg X.base CX0 k x ps rK)(hr:?Am)(hg:?Ai)(ha:P3 X Γ a ?Ah)(hm:(l,Zy)∈Ω)(hb:P3 X Γ b (.int m))(h1:0<m)(h2:m<1073741824)
  (h:∀ r:Int,0<=r->r<m->R (.int r) Ω) (hdb:?L:=by decide)
  (he:starEach [a,b] X.env=?qO::starEach [b] X.env:=by rfl) (he2:starEach [b] X.env=(?AN,?Ey)::starEach [] X.env:=by rfl) (hpl:(backTo pos (starEach [b] X.env)).any ?C=false:=by rfl):V3 X B (.Call ?FG [a,b] [] pos) Γ Ω R:=fun F σ H S pins s I=>
 wg o hr hg ?O1 hdb he hpl pins s σ H _ I ⟨F,S.fh,S.sl,fun vs H' F' pu i=>by
  dsimp only;rw[yM];obtain⟨x,y,rfl,i1,i2⟩:=Bb i;cases isR i1;cases isI i2;have S1:=S.pur pu;obtain⟨fa,o',ha',ho⟩:=S1.own _ hm;obtain⟨x0,rfl,b1,b2⟩:=ho F' ?AE;exact⟨l,m,x0,rfl,h1,h2,ha',b1,b2,fun x' r c1 c2 c3 c4=>⟨.int r,Ω,F',S1.turnIn hm (fun F2 _=>⟨x',rfl,c1,c2⟩),pu.ff,JH F',h r c3 c4⟩⟩⟩
def Qc (K:?A1)(mg:?G)(x:Str)(d:D):Prop:=∃ (v:V) (u:Value),mg x=some u/\YV v u/\∀ F,Is K F d v
theorem Y5(h:Qc X.K X.mg x d)(hg:?Ai)(hd:?L:=by decide):?G6:=by
 obtain⟨v,u,hm,r,i⟩:=h;exact rC hg hm r i hd
structure Zs (mg:?G):Prop where
 len:mg "len" = none
 range:mg "range" = none
 list:mg "list" = none
 tuple:mg "tuple" = none
 int:mg "int" = none
 bool:mg "bool" = none
 str:mg "str" = none
 dict:mg "dict" = none
 isinstance:mg "isinstance" = none
 sum:mg "sum" = none
 enumerate:mg "enumerate" = none
 zip:mg "zip" = none
 ValueError:mg "ValueError" = none
 all:mg "all" = none
 any:mg "any" = none
 reversed:mg "reversed" = none
 sorted:mg "sorted" = none
theorem zZ {a b:Int}(p:0<b):0<=a % b/\a % b<b:=⟨Int.emod_nonneg a ?A,Int.emod_lt_of_pos a p⟩
theorem lM {a b:Int}(ha:0<=a)(hb:0<b):My.G b (a % b)=My.G a b:=by
 rw[←jv a (yN hb)];exact My.G_turn ha hb
theorem ic {p q:Rat}:(0:Int)<p.den*q.den:=Qm ?Bq ?Bb
theorem EI {p q:Rat}(hp:0<=p)(hq:0<=q):0<=p.num*q.den+q.num*p.den:=
 Int.add_nonneg (QD (My.q_num_nn hp) (yN ?Bb)) (QD (My.q_num_nn hq) (yN ?Bq))
theorem EQ {p q:Rat}(h:q<=p):0<=p.num*q.den - q.num*p.den:=by
 have:=(Rat.le_iff q p).mp h;lia
theorem zC(h:P3 X Γ e d')(q:d'=d):?Cl:=q▸h
def Fe:?H:=fun ds d=>∃ (ns:List Int) (k:Nat),ds=[.scr ns,.int (k:Int)]/\d=.int ?IL
def rD:Sp:=fun vs H Q _=>∃ c:Int,vs=[.int c]/\∀ (p:Addr) (x:Int),H p=none->0<=x->x<2147483647->Q ?Bw (upd H p (.lst [.int x]))
theorem ao {a b:Int}(h:b.natAbs<2 ^ 64):IntMulOk a b:=IntMulOk.of_right (WG h)
theorem Af {X:Cx}{B:Bs}{Γ:Ga}{Ω:Om}{x:Str}{ps:?A0}{k:Nat}{a:Expr}{p pos:Pos}{c:Int}{R:?X}(o:OkF X.prog X.w X.K X.mg X.base CX0 k x ps rD)(hr:?Am)(hg:?Ai)(ha:P3 X Γ a (.int c))(h:∀ l,R ?Ah ((l,Zy)::Ω))(hdb:?L:=by decide)
  (he:?zG:=by rfl):V3 X B (.Call ?FG [a] [] pos) Γ Ω R:=fun F σ H S pins s I=>
 wg o hr hg ?CM hdb he (by rfl) pins s σ H _ I ⟨F,S.fh,S.sl,fun vs H' F' pu i=>by
  dsimp only;rw[yM];obtain⟨y,rfl,i1⟩:=Ui i;cases isI i1;refine⟨c,rfl,fun l x0 hl b1 b2=>⟨?Ah,(l,Zy)::Ω,F',?_,pu.ff,ZD F',h l⟩⟩;exact S.new ?NB (pu.hh.free hl) (pu.fh.free hl) yX fun F2 _=>⟨x0,rfl,b1,b2⟩⟩
def qX:Nat->?W->Rat
 |0,_=>0
 |n+1,f=>qX n f+f n
theorem JS {f g:?W}(h:∀ j,j<n->f j=g j):qX n f=qX n g:=by
 induction n with
 |zero=>rfl
 |succ n ih=>rw[qX,qX,ih (fun j hj=>h j ?A),h n ?A]
theorem xP {f g:?W}:qX n (fun j=>f j+g j)=qX n f+qX n g:=by
 induction n with
 |zero=>simp only[qX];grind
 |succ n ih=>rw[qX,qX,qX,ih];grind
theorem dC {c:Rat}{f:?W}:qX n (fun j=>c*f j)=c*qX n f:=by
 induction n with
 |zero=>simp only[qX];grind
 |succ n ih=>rw[qX,qX,ih];grind
theorem Kt {f:?W}(h:∀ j,j<n->f j=0):qX n f=0:=by
 induction n with
 |zero=>rfl
 |succ n ih=>rw[qX,ih (fun j hj=>h j ?A),h n ?A];grind
theorem W1 {f:?W}(hk:k<n):qX n ?tL=qX n f - f k:=by
 induction n with
 |zero=>lia
 |succ n ih=>
  rw[qX,qX];by_cases h:k=n
  .subst h;rw[yf rfl,JS (g:=f) fun j hj=>ye ?A];grind
  .rw[ye (fun z=>h z.symm),ih ?A];grind
def tb(n:Nat)(f:Nat->α):?Ay:=(?Dw).map f
theorem zg(h:k<n):(?Dd)[k]?=some (f k):=by
 unfold tb;rw[yz,jJ h];rfl
theorem YT:(?Dd).length=n:=by unfold tb;simp
theorem kO(h:∀ j,j<n->f j=g j):tb n f=tb n g:=Jv fun j hj=>h j (qS.mp hj)
theorem ni(h:k<=n):(?Dd).take k=tb k f:=by
 unfold tb;rw[←List.map_take,List.take_range,Nat.min_eq_left h]
theorem zw:tb (n+1) f=tb n f++[f n]:=by
 unfold tb;rw[qw,yk];rfl
theorem Fs:(?Dd).set k x=tb n fun j=>if j=k then x else f j:=by
 refine Qw fun i=>?_;by_cases h:i<n
 .rw[zg h,qN];by_cases hk:k=i
  .subst hk;rw[yf rfl,yf rfl,yf ?xR]
  .rw[ye hk,zg h,ye (fun z=>hk z.symm)]
 .rw[yE.mpr (by rw[List.length_set,YT];lia),yE.mpr ?qR]
theorem oq:(?Dd).mapIdx g=tb n fun j=>g j (f j):=by
 refine Qw fun i=>?_;rw[List.getElem?_mapIdx];by_cases h:i<n
 .rw[zg h,zg h];rfl
 .rw[yE.mpr ?qR,yE.mpr ?qR];rfl
theorem iz:(?Dd).zip (tb n g)=tb n fun j=>(f j,g j):=by
 refine Qw fun i=>?_;by_cases h:i<n
 .rw[zg h];exact qG.mpr ⟨zg h,zg h⟩
 .rw[yE.mpr (by rw[Y3,YT,YT];lia),yE.mpr ?qR]
theorem ua(h:k<n):atI ?Dd (k:Int)=some (f k):=by
 unfold atI ixN;rw[YT,yf ?A,yf ?A];show(?Dd)[((k:Int)).toNat]?=_;rw[Qz];exact zg h
theorem Cw {n k:Nat}(h:k<n):ixN n (k:Int)=some k:=by
 unfold ixN;rw[yf (by lia),yf ?A,Qz]
def shR (m:Nat)(f:?W):D:=.lst (tb m fun j=>sh (f j))
def shM (n m:Nat)(E:?I):D:=.lst (tb n fun i=>shR m (E i))
theorem Kj {f g:?W}(h:∀ j,j<m->f j=g j):shR m f=shR m g:=by
 unfold shR;rw[kO fun j hj=>by rw[h j hj]]
def KH (E:?I)(k:Nat):?I:=fun i j=>
 if i=k then (if j=k then 0 else E k j / ?yH) else (if j=k then 0 else E i j+E i k*(E k j / ?yH))
def EK (E:?I):Nat->Nat->Nat->Rat
 |0=>E
 |k+1=>KH (EK E k) k
def km (n m s:Nat)(E:?I):Prop:=∀ i j,i<n->j<m->0<=E i j/\Sz s (E i j)
theorem kG {q:Rat}(h:q<1):0<1 - q:=by grind
theorem km.step {n m s k:Nat}{E:?I}(h:km n m s E)(hk:k<n)(hm:k<m)(h1:E k k<1):km n m (4*s+3) (KH E k):=fun i j hi hj=>by
 have a:=h k k hk hm;have b:=h k j hk hj;have c:=h i j hi hj;have e:=h i k hi hm;have p:=kG h1;have z:Sz (4*s+3) (0:Rat):=Xw.mono ?A;have g0:0<=E k j / (1 - E k k):=uz b.1 p;have gs:Sz (s+(1+s+1)) (E k j / (1 - E k k)):=xq b.2 (iZ gU a.2) p;unfold KH;by_cases h1:i=k
 .rw[yf h1];by_cases h2:j=k
  .rw[yf h2];exact⟨?B,z⟩
  .rw[ye h2];exact⟨g0,gs.mono ?A⟩
 .rw[ye h1];by_cases h2:j=k
  .rw[yf h2];exact⟨?B,z⟩
  .rw[ye h2];exact⟨ky c.1 (ZB e.1 g0),(bR c.2 (K7 e.2 gs)).mono ?A⟩
def Piv (n:Nat)(E:?I):Prop:=∀ k,k<n->EK E k k k<1
def sK (s:Nat):Nat->Nat
 |0=>s
 |k+1=>4*sK s k+3
theorem Wh(h:j<=k):sK s j<=sK s k:=by
 induction k with
 |zero=>rw[Nat.le_zero.mp h];exact yg _
 |succ k ih=>
  rcases JN j (k+1) with h1|h1
  .have:=ih ?A;rw[sK];lia
  .rw[show j=k+1 by lia];exact yg _
theorem km.at {E:?I}(h:km n m s E)(hm:n<=m):∀ k,k<=n->(∀ j,j<k->EK E j j j<1)->km n m (sK s k) (EK E k)
 |0,_,_=>h
 |k+1,hk,hp=>(km.at h hm k ?A fun j hj=>hp j ?A).step ?A ?A (hp k ?A)
theorem nh {E E':?I}(h:∀ i j,i<n->j<n->E i j=E' i j):∀ k,k<=n->∀ i j,i<n->j<n->EK E k i j=EK E' k i j
 |0,_,i,j,hi,hj=>h i j hi hj
 |k+1,hk,i,j,hi,hj=>by
  have ih:=nh h k ?A;rw[EK,EK];unfold KH;rw[ih k j (by lia) hj,ih k k ?A ?A,ih i j hi hj,ih i k hi ?A]
def nnR (m s:Nat)(f:?W):Prop:=∀ j,j<m->0<=f j/\Sz s (f j)
def oO:?H:=fun ds d=>∃ (m k:Nat) (f:Nat->Rat),ds=[shR m f,.int k]/\d=shR m ?tL/\k<m/\m<=10000
def oV:?H:=fun ds d=>∃ (m k s:Nat) (f:Nat->Rat),ds=[shR m f,.int k]/\d=shR m (fun j=>if j=k then 0 else f j / (1 - f k))/\k<m/\m<=10000/\nnR m s f/\4*s+3<=big/\f k<1
def HQ:?H:=fun ds d=>∃ (m k s:Nat) (f g:Nat->Rat),ds=[shR m f,.int k,shR m g]/\d=shR m (fun j=>if j=k then 0 else f j+f k*g j)/\k<m/\m<=10000/\nnR m s f/\nnR m (2*s+2) g/\4*s+3<=big/\g k=0
theorem uQ(h:k<=n):HT.sIx n d (some (k:Int))=k:=by rw[HT.B7];lia
theorem WJ {k:Nat}(h:k<=ds.length):vQ ds none (some (k:Int))=ds.take k:=by
 unfold vQ;rw[HT.eV,uQ h];simp
theorem xj {k:Nat}(h:k<=ds.length):vQ ds (some (k:Int)) none=ds.drop k:=by
 unfold vQ;rw[HT.eV,uQ h,List.take_of_length_le (by rw[j7];lia)]
theorem EL(h:k<m):(?FS).take k++[x]++(?FS).drop (k+1)=tb m fun j=>if j=k then x else f j:=by
 rw[←Fs,List.set_eq_take_append_cons_drop,yf ?xR];simp
theorem cY {m k:Nat}{f:Nat->D}(h:k<=m):vQ ?FS none (some (k:Int))=(?FS).take k:=WJ ?xR
theorem m4 {m k:Nat}{f:Nat->D}(h:k+1<=m):vQ ?FS (some ((k:Int)+1)) none=(?FS).drop (k+1):=by
 rw[show((k:Int)+1)=((k+1:Nat):Int) by lia,xj ?xR]
theorem Fw {m k:Nat}{f:?W}{x:Rat}:(tb m fun j=>if j=k then sh x else sh (f j))=tb m fun j=>sh (if j=k then x else f j):=kO fun j _=>by
 by_cases h:j=k
 .rw[yf h,yf h]
 .rw[ye h,ye h]
def iC (lo n:Nat):?A7:=tb n fun j=>.int ((lo+j:Nat):Int)
theorem jm {lo n:Nat}:(iC lo n).length=n:=YT
theorem zu {lo n i:Nat}(h:(iC lo n)[i]?=some d):i<n/\d=.int ((lo+i:Nat):Int):=by
 have hi:=(yi.mp h).1;rw[jm] at hi;unfold iC at h;rw[zg hi] at h;cases h;exact⟨hi,rfl⟩
theorem XQ {lo n:Nat}:wN (lo:Int) n=iC lo n:=by
 unfold wN iC;refine kO fun j _=>?_;congr 1
theorem zS {j:Int}{n:Nat}(hm:?qM)(hg:?qV)(ha:?PG)(hj:j=(n:Int))(hn:n<2 ^ 62)(hs:?jF:=by rfl):I3 X Γ tg ?kO (iC 0 n):=by
 subst hj;have h:=A0 (tg:=tg) (p:=p) (pos:=pos) hm hg ha ?A ?A hs;rw[Qz,show(0:Int)=((0:Nat):Int) from rfl,XQ] at h;exact h
theorem xC {i j:Int}{lo n:Nat}(hm:?qM)(hg:?qV)(ha:?BI)(hb:?BF)(hi:i=(lo:Int))(hj:(?P).toNat=n)(hn:lo<2 ^ 61/\-(2 ^ 61)<=j/\j<2 ^ 61)
  (hs:?jE:=by rfl) (hs2:?jN:=by rfl):I3 X Γ tg ?tE (iC lo n):=by
 subst hi hj;have h:=sf (tg:=tg) (p:=p) (pos:=pos) hm hg ha hb ⟨?A,?A,?A,?A⟩ hs hs2;rw[XQ] at h;exact h
section
theorem hZ {nt:Nat}{R:?X}
  (h:IV3 X B tg iter Γ Ω fun ds Ω1=>∃ J:Nat->List D->Om->Prop,J 0 [] Ω1/\?uR/\
   (∀ c i d gs Ω',ds[i]?=some d->J i gs Ω'->∃ Γ1,G3 ?BG tg ?DN d Γ1/\Sub ?DN Γ1/\∀ l:Addr,V3 ?BG B elt Γ1 ((l,?B5)::Ω') fun e Ω2=>∃ Ω3,Ω2.Perm ((l,?B5)::Ω3)/\J (i+1) (gs++[e]) Ω3)/\
   ∀ a gs Ω',J ds.length gs Ω'->R ?Av ((a,?B5)::Ω'))
  (S0:?HD) (hQ:∀ v H',VR X.K B Γ F σ R v H'->Q v H') :
  mG nt caps (WI X tg iter) (fun c=>gW ?BG tg) mC (fun c=>WE ?BG elt) σ H Q:=by
 refine(h F σ H S0).mono fun Jt H1 ⟨ds,Ω1,F1,S1,p1,w,J,h0,hz,step,hd⟩ D hD c=>
  ⟨fun i m σ' ys H'=>i+m=ds.length/\∃ gs Ω' F',Yh F1 F'/\Sat X.K B (KJ nt caps Γ) ((D,?B5)::Ω') F' σ' H'/\H' D=some (.lst ys)/\IsL X.K F' gs ys/\J i gs Ω',?_,?_⟩
 .refine⟨?If,?A,[],Ω1,F1,?AE,?_,yX,?CR,h0⟩;exact(S1.new ?Om hD (S1.fh.free hD) yX fun F2 e=>⟨[],rfl,?CR⟩).slots (Sl.cap S1.sl)
 .rintro i m σ' ys H' ⟨hm,gs,Ω',F',f',S',hH,il,j⟩;refine⟨hH,by rw[il.len];exact ?ID,?_⟩;obtain⟨w1,w2⟩:=w i F' H' f' S'.fh;cases z:ds[i]? with
  |none=>
   have hl:ds.length<=i:=yE.mp z;have e:i=ds.length:=by lia
   subst e;exact .inl ⟨w2 hl,hQ _ _ ⟨.raw (.ref D),_,F',?Nx,p1.trans f',ZD F',hd D gs Ω' j⟩⟩
  |some d=>
   have hl:i<ds.length:=(yi.mp z).1;obtain⟨go,y⟩:=w1 d z;obtain⟨Γ1,⟨g,pg,gq⟩,sub,he⟩:=step c i d gs Ω' z j;refine .inr ⟨go,fun x H2 hy pins s u I2 r=>?_⟩;obtain⟨F2,p2,ix⟩:=y x H2 hy;refine pg pins s σ' H2 x u _ I2 r (gq F2 σ' H2 x _ p2.fh ix (S'.sl.mono p2.ff) I2.len fun σ3 sl3 _=>?_);unfold mC;dsimp only;rw[yf rfl];refine WE.mono (he D F2 σ3 H2 ((S'.pur p2).slots sl3)) fun v H5 ⟨e,Ω2,F5,S5,f5,iv,Ω3,pm,j5⟩=>?_;have S5':=S5.perm pm.symm;obtain⟨fD,o,hD5,ho⟩:=S5'.own (D,?B5) (by simp);obtain⟨ys',rfl,il'⟩:=ho F5 ?AE;refine⟨ys',hD5,by rw[il'.len];exact ?ID,m - 1,?A,?A,gs++[e],Ω3,F5,?Nf,?_,yX,il'.append ?K3,j5⟩;exact(S5'.turn fun F6 e6=>⟨_,rfl,(il'.mono e6).append ?NO⟩).slots (S5'.sl.sub sub)
theorem wV {nt:Nat}{i:Nat}(S:?Ci)(hnd:?CC)(hix:X.N[i]?=some y)(hy:?KH)
  (h:IV3 X B tg iter Γ Ω fun ds Ω1=>∃ J:Nat->List D->Om->Prop,J 0 [] Ω1/\?uR/\
   (∀ c i d gs Ω',ds[i]?=some d->J i gs Ω'->∃ Γ1,G3 ?BG tg ?DN d Γ1/\Sub ?DN Γ1/\∀ l:Addr,V3 ?BG B elt Γ1 ((l,?B5)::Ω') fun e Ω2=>∃ Ω3,Ω2.Perm ((l,?B5)::Ω3)/\J (i+1) (gs++[e]) Ω3)/\
   ∀ a gs Ω',J ds.length gs Ω'->W3 X B rest ?PK ((a,?B5)::Ω') E)
  (hsw:swapsWith ?uY (some ?GH) spos.line X.env=pure true:=by rfl) (hc:?Z:=by rfl) (hX:?yE:=by rfl) (hN:X.N=XN:=by rfl)
  (hs:∀ x,foldedSetIterable iter X.env x=pure x:=by intro _;rfl) (hf:?uL:=by first|exact .inl rfl|exact ?By):W3 X B (.Assign [.Name y py] ?uY spos::rest) Γ Ω E:=fun F σ H S' pins s I=>by
 refine qd (mi S hnd hix hy CC (fun c=>iR) (fun c=>aQ (c:=c)) (fun c=>jl) hsw hc hX hN hs hf) Qg pins s σ H _ I (hZ (R:=fun d Ω'=>W3 X B rest ?Fx Ω' E) (Q:=fun x H1=>XF i x σ H1 ?Dr) h S' ?_);rintro v H' ⟨d,Ω',F',S1,f1,iv,w⟩;exact qF f1 (w F' _ H' (S1.slots (Sl.set S1.sl (by rw[I.len];exact(yi.mp hix).1) iv)))
end
theorem BW:tb (n+1) f=f 0::tb n fun i=>f (i+1):=by
 unfold tb;rw[List.range_succ_eq_map,yt,YB];rfl
theorem Ag {Ω:Om}(nd:(Ω.map ?C).Nodup):∀ {a:Addr} {w w':Ow},(a,w)∈Ω->(a,w')∈Ω->w=w':=by
 induction Ω with
 |nil=>intro a w w' h;cases h
 |cons r Ω ih=>
  intro a w w' h h';rw[yt,Yi] at nd;rcases yG.mp h with z|z
  .rcases yG.mp h' with z' | z'
   .rw[←z] at z';injection z' with _ e;exact e.symm
   .exact absurd (yn.mpr ⟨(a,w'),z',by rw[←z]⟩) nd.1
  .rcases yG.mp h' with z' | z'
   .exact absurd (yn.mpr ⟨(a,w),z,by rw[←z']⟩) nd.1
   .exact ih nd.2 z z'
def spD (K:?A1)(n:Nat)(C0:?zM)(C:?H):Sp:=fun vs H Q _=>∃ (a:Addr) (us:List V) (ds:List D) (F:Hp) (x:Int),vs=.ref a::us/\ds.length+1=n/\Yh F H/\F a=none/\H a=some (.lst [.int x])/\0<=x/\x<2147483647/\IsL K F ds us/\C0 ds/\
 ∀ d,C ds d->∀ (v:V) (H' F':Hp) (x':Int),Yh F F'->Yh F' H'->?uX->?kH->F' a=none->H' a=some (.lst [.int x'])->0<=x'->x'<2147483647->Is K F' d v->Q v H'
theorem spD.len {K:?A1}{n:Nat}{C0:?zM}{C:?H}{vs:?AL}{H:Hp}{Q:VK}{E:XK}(h:spD K n C0 C vs H Q E):?wI:=by
 obtain⟨a,us,ds,F,x,rfl,l,_,_,_,_,_,i,_⟩:=h;rw[yw,i.len,l]
section
variable {P:?A6}{w:?A5}{K:?A1}{mg:?G}{base:Heap}{x:Str}{st:Stmt}{N ps:?A0}{k n:Nat}
theorem fL {C0:?zM}{C:?H}(d:?F7)(S:?BW)(hn:?yI)
  (body:∀ (f:Addr) (cdv:Value) (A:Around) (outer:List Env) (s:Shared) (H:Hp) (E:XK),Room k ?Fi->∀ (a:Addr) (ds:List D),C0 ds->∀ B:Bs,
   W3 ?H9 B ?Ae (jw N ?zJ) [(a,Zy)] ⟨fun _ _=>?AC,fun r Ω=>C ds r/\Ω=[(a,Zy)],fun _ _=>?AC,fun _ _=>?AC⟩) :
  OkF P w K mg base CX0 (k+1) x ps (spD K n C0 C):=by
 refine d.ok S (fun vs H Q E h=>(spD.len h).trans hn.symm) fun f cdv A outer s H vs Q E hr h=>?DU
 obtain⟨a,us,ds,F,x0,rfl,hl,fh,fa,ha,b1,b2,il,c0,q⟩:=h;have il':IsL K F (.raw (.ref a)::ds) (.ref a::us):=IsL.cons (ZD F) il;have S0:Sat K ⟨[a],F,H⟩ (jw N (.raw (.ref a)::ds)) [(a,Zy)] F (L2.start N (.ref a::us)) H:=by
  refine⟨?AE,fh,fun _ q=>?Bk,fun _ _ _ e=>e,by simp,fun p hp=>?_,fun p hp=>?_,Sl.start il'⟩
  .rw[yy.mp hp];exact .inl (by simp)
  .rw[yy.mp hp];exact⟨fa,_,ha,fun _ _=>⟨x0,rfl,b1,b2⟩⟩
 refine Qs (D:=E3.to K ⟨[a],F,H⟩ F ⟨fun _ _=>?AC,fun r Ω=>C ds r/\Ω=[(a,Zy)],fun _ _=>?AC,fun _ _=>?AC⟩) (D':={nx:=fun _ H'=>?Aq,rt:=Q}) ?_ ?_ ?_ ?_ (body f cdv A outer s H E hr a ds c0 ⟨[a],F,H⟩ F _ H S0)
 .rintro σ' H' ⟨_,_,_,_,_,z⟩;exact ?AR
 .rintro v H' ⟨r,Ω',F',⟨σ',S'⟩,f',iv,hC,rfl⟩;obtain⟨fa',o',ha',ho⟩:=S'.own (a,Zy) (by simp);obtain⟨x',rfl,c1,c2⟩:=ho F' ?AE;refine q r hC v H' F' x' S'.f0 S'.fh (fun b o hb e=>S'.kp b o (by simpa using hb) e) ?wH fa' ha' c1 c2 iv;rcases S'.fr b hb with z|z|z
  .exact ?BY
  .exact ?D5
  .have e:b=a:=by simpa using z
   subst e;exact absurd fa' hb
 .rintro σ' H' ⟨_,_,_,_,_,z⟩;exact ?AR
 .rintro σ' H' ⟨_,_,_,_,_,z⟩;exact ?AR
end
theorem nu {k n:Nat}{C0:?zM}{C:?H}{R:?X}(o:OkF X.prog X.w X.K X.mg X.base CX0 k x ps (spD X.K n C0 C))(hr:?Am)(hg:?Ai)(ha:P3 X Γ a ?Ah)(hm:(l,Zy)∈Ω)
  (h:VL3 X B es Γ Ω fun ds Ω1=>Ω1=Ω/\ds.length+1=n/\C0 ds/\∀ d,C ds d->R d Ω) (hdb:?L:=by decide)
  (he:starEach (a::es) X.env=?qO::starEach es X.env:=by rfl) (hpl:?zA:=by rfl):V3 X B (.Call ?FG (a::es) [] pos) Γ Ω R:=fun F σ H S pins s I=>
 wg o hr hg (zY ha iS he) hdb he hpl pins s σ H _ I ⟨F,S.fh,S.sl,fun v H1 F1 p1 i1=>(?PJ).mono fun us H2 ⟨ds,Ω2,F2,S2,f2,il,e2,hn,c0,q⟩=>by
  dsimp only;rw[yM];subst e2;cases isR i1;obtain⟨fa,o',ha',ho⟩:=S2.own _ hm;obtain⟨x0,rfl,b1,b2⟩:=ho F2 ?AE;refine⟨l,us,ds,F2,x0,rfl,hn,S2.fh,fa,ha',b1,b2,il,c0,fun d hd v H' F' x' g1 g2 g3 g4 g5 g6 g7 g8 iv=>⟨d,Ω2,F',?_,p1.ff.trans (f2.trans g1),iv,q d hd⟩⟩;have od:=S2.od _ hm;refine⟨?LW,g2,fun b hb=>?_,fun b o hb e=>?_,S2.nd,S2.od,fun r hr=>?_,?Lp⟩
  .rcases g4 b hb with z|z
   .exact S2.fr b z
   .exact(?M7).elim (fun w=>?II) fun w=>.inr (.inr w)
  .by_cases hbl:b=l
   .subst hbl;rcases od with z|z
    .exact absurd z hb
    .have z':B.H b=none:=z;rw[z'] at e;cases e
   .exact g3 b o hbl ?LK
  .obtain⟨h1,o2,h2,h3⟩:=S2.own r hr;by_cases hrl:r.1=l
   .have er:r=(l,Zy):=by
     obtain⟨r1,r2⟩:=r;dsimp only at hrl;subst hrl;have:=Ag S2.nd hr hm;rw[this]
    subst er;exact⟨g5,_,g6,fun _ _=>⟨x',rfl,g7,g8⟩⟩
   .refine⟨?_,o2,g3 _ _ hrl h2,fun F3 e3=>?Ju⟩;cases zz:F' r.1 with
    |none=>rfl
    |some u=>
     rcases g4 r.1 (by rw[zz];simp) with z|z
     .exact absurd h1 z
     .rw[h2] at z;cases z⟩
end L3
namespace L2
open PySem PySem.Spec PySem.Calls PyProof.Rows
section
theorem XG:OpR X (compareOp .LtE) (fun x y H Q=>∃ i j,x=.str i/\y=.str j/\Q (.bl (!decide (j.cps.toList<i.cps.toList))) H):=by
 rintro pins s σ H x y v u Q I rx ry ⟨i,j,rfl,rfl,q⟩;obtain⟨t1,rfl⟩:=rx;obtain⟨t2,rfl⟩:=ry;exact PySem.P.le_str (Qe I q rfl)
def Its (x:Str):It:=⟨fun i _=>i<x.cps.size,fun i H v H'=>H'=H/\∃ c,x.cps[i]?=some c/\v=.str ⟨#[c]⟩,fun i _=>x.cps.size<=i⟩
theorem ra {P:?A6}{w:?A5}{K:?A1}{tg:Expr}(x:Str)(tk:Tok)(it:Addr):Turn P w K tg (Its x) [it] it (fun i h=>h.IsStrIter it "str_ascii_iterator" x tk i) where
 mem:=by simp
 obj:=fun i h st b hb=>by
  obtain⟨o,e1,c1,d1⟩:=st;rw[yy.mp hb];exact⟨o,e1,fun v z=>by rw[d1] at z;cases z⟩
 keep:=fun i h h' ⟨o,e1,r1⟩ k=>⟨o,k it (by simp) o e1,r1⟩
 item:=by
  intro X hP hw hK hc i pins s σ H E I hf st hg;subst hP hw hK;obtain⟨f0,f1,f2,f3,f4,f5⟩:=hf it (by simp);have hi:i<x.cps.size:=hg;have hx:x.cps[i]?=some x.cps[i]:=Array.getElem?_eq_getElem hi;refine wpAny_pyNext_ascii_item st hx fun h' st' sb=>?_;have I1:Inv X pins σ H {s with heap:=h',toks:=?zU}:=I.turned ?jJ f0 f1 f3 f4 f5;obtain⟨o,e1,c1,d1⟩:=id st';exact⟨_,rfl,eJ (s:={s with heap:=h',toks:=?zU}) e1 c1 d1 ?B ⟨.str ⟨#[x.cps[i]]⟩,H,I1,?DM,⟨rfl,_,hx,rfl⟩,st',fun b hb=>?yG⟩⟩
 done:=by
  intro X hP hw hK hc i pins s σ H E I hf st hg;subst hP hw hK;obtain⟨f0,f1,f2,f3,f4,f5⟩:=hf it (by simp);have hi:x.cps.size<=i:=hg;exact wpAny_pyNext_ascii_end ?Bs st (Array.getElem?_eq_none_iff.mpr hi) fun h' eb=>?qF
 self:=fun _ _ _ _ _ st h=>wpAny_pyIter_striter_ascii st h
def IF (tl:TE):TI:=fun σ H R=>tl σ H fun v H1=>∃ x:Str,v=.str x/\x.cps.all (·<128)=true/\R (Its x) H1
theorem EH {tl:TE}(hl:?Ij):PI X tg l (IF tl):=by
 intro pins s σ H R I h;refine thn ?HL fun v s1 ⟨y,H1,I1,r1,x,e1,ha,q⟩=>?_;subst e1;obtain⟨tk,rfl⟩:=r1;refine wpAny_pyIter_ascii ha ⟨?Ea,?jY,_,_,H1,rfl,I1.kept (t':=?Cy) fun b o e=>?At,ra x tk _,?Dh,fun b hb=>?_,q⟩;rw[yy.mp hb];exact ?Dg
theorem nc {bs:List Bool}{us:?AX}(r:qc ?Le us)(i:Nat)(v:?AK)(h:us.toArray[i]?=some v):v=.bool ?Dm:=by
 have hl:=r.length;rw[yd] at hl;have h':us[i]?=some v:=by simpa using h
 have hi:i<bs.length:=by rw[hl];exact(yi.mp h').1
 have e1:(bs.map V.bl)[i]?=some (V.bl bs[i]):=by rw[yz,yl hi];rfl
 obtain⟨u,hu,ru⟩:=r.get e1;rw[h'] at hu;cases hu;rw[yW,yl hi];exact ru
theorem ak (bs:List Bool):(?Fl).map (fun i=>?Dm)=bs:=by
 refine Qw fun i=>?_;rw[yz];by_cases hi:i<bs.length
 .rw[jJ hi,yl hi];simp[yW,yl hi]
 .rw[yE.mpr (by simpa using hi),yE.mpr ?A];rfl
theorem oo (hc:?Z):V5 X (.builtin "all") (fun xs H Q=>∃ (a:Addr) (bs:List Bool),xs=[.ref a]/\SqL X.K H a ?Le/\Q ?Ke H):=by
 rintro pins s σ H xs us Q I r ⟨a,bs,rfl,hl,q⟩;obtain⟨u,rfl,rx⟩:=wc r;cases rx;obtain⟨its,rv,p,_⟩:=I.list hl;have hz:its.toArray.size=bs.length:=by have:=rv.length;rw[yd] at this;simpa using this.symm
 refine call_all_walk ?tS
 .intro i v s' Q' E' hv hq;rw[nc rv i v hv];exact qL hq
 .intro h' tk hk;refine⟨?Ke,H,I.kept fun b o e=>hk b o (fun z=>absurd (yu e) (by rw[yy.mp z];exact jH _)) ?At,?_,q⟩;show Value.bool _=Value.bool _;rw[hz,show(?Fl).all (fun i=>?Dm)=((?Fl).map fun i=>?Dm).all id by rw[List.all_map];rfl,ak]
theorem oM (hc:?Z):V5 X (.builtin "any") (fun xs H Q=>∃ (a:Addr) (bs:List Bool),xs=[.ref a]/\SqL X.K H a ?Le/\Q ?Kd H):=by
 rintro pins s σ H xs us Q I r ⟨a,bs,rfl,hl,q⟩;obtain⟨u,rfl,rx⟩:=wc r;cases rx;obtain⟨its,rv,p,_⟩:=I.list hl;have hz:its.toArray.size=bs.length:=by have:=rv.length;rw[yd] at this;simpa using this.symm
 refine call_any_walk ?tS
 .intro i v s' Q' E' hv hq;rw[nc rv i v hv];exact qL hq
 .intro h' tk hk;refine⟨?Kd,H,I.kept fun b o e=>hk b o (fun z=>absurd (yu e) (by rw[yy.mp z];exact jH _)) ?At,?_,q⟩;show Value.bool _=Value.bool _;rw[hz,show(?Fl).any (fun i=>?Dm)=((?Fl).map fun i=>?Dm).any id by rw[List.any_map];rfl,ak]
end
end L2
namespace L3
open PySem PySem.Spec PySem.Calls PyProof.Rows L2
theorem IsL.of_bls {K:?A1}{H:Hp}:∀ {bs:List Bool} {xs:List V},IsL K H (bs.map D.bl) xs->xs=bs.map V.bl
 |[],_,h=>by simp only[ji,IsL] at h;subst h;rfl
 |n::ns,_,h=>by
  simp only[yt,IsL] at h;obtain⟨x,r,rfl,h1,h2⟩:=h;simp only[Is] at h1;rw[h1,IsL.of_bls h2];rfl
def xA (x:Str):?A7:=x.cps.toList.map fun c=>D.str ?zK
def leS (i j:Str):Bool:=!decide (j.cps.toList<i.cps.toList)
theorem FS:bootBuiltins "all" = some (.builtin "all"):=by decide +kernel
theorem FW:bootBuiltins "any" = some (.builtin "any"):=by decide +kernel
section
variable {X:Cx}{Γ:Ga}{tg a b c:Expr}{pos p:Pos}{x y z:Str}{bs:List Bool}
theorem FL (h:?Fo)(ha:x.cps.all (·<128)=true):I3 X Γ tg a (xA x):=PI.of (EH h) fun σ H R ⟨F,fh,sl,q⟩=>⟨F,fh,sl,fun v H' F' p i=>by
 refine⟨x,isS i,ha,q _ H' F' p fun n F2 H2 e1 e2=>?kU⟩
 .unfold xA at w;rw[yz] at w;obtain⟨c,hc,rfl⟩:=Yk.mp w;rw[Array.getElem?_toList] at hc;have hi:n<x.cps.size:=(Array.getElem?_eq_some_iff.mp hc).1;refine⟨hi,?_⟩;rintro v' H3 ⟨rfl,c',hc',rfl⟩;rw[hc] at hc';cases hc';exact⟨F2,?IO,X7 F2⟩
 .unfold xA at w;rw[yd,Array.length_toList] at w;exact w⟩
theorem dS (ha:?Fo)(hb:?PF)(hc:P3 X Γ c (.str z))(hm:lastMarks [.LtE,.LtE] [b,c]=false:=by with_unfolding_all rfl):P3 X Γ (.Compare a [.LtE,.LtE] [b,c] pos) (.bl (leS x y&&leS y z)):=
 PE.of (eS XG XG ha hb hc hm) fun σ H Q ⟨F,fh,sl,k⟩=>⟨F,fh,sl,fun v1 H1 F1 p1 i1=>⟨F1,?Bj,?DH,fun v2 H2 F2 p2 i2=>⟨x,y,isS i1,isS i2,leS x y,rfl,by
  cases q:leS x y with
  |true=>
   rw[yf rfl];exact⟨F2,p2.fh,?JM,fun v3 H3 F3 p3 i3=>⟨y,z,isS i2,isS i3,k _ _ _ ((?CK).trans p3) (by rw[q];exact Wr F3)⟩⟩
  |false=>
   rw[ye yV];exact k _ _ _ ?CK (by rw[q];exact Wr F2)⟩⟩⟩
theorem Ec (hk:?Z)(hm:X.mg "all" = none)(hg:Gl X "all")(ha:?NC)(he:?zG:=by rfl):P3 X Γ (.Call (.Name "all" p) [a] [] pos) ?Ke:=
 ZT (oo hk) hg hm FS ?CM (fun vs H F Q fh i k=>by
  obtain⟨v,rfl,j0⟩:=Ui i;obtain⟨l,xs,rfl,s1,j1⟩:=ze j0;cases IsL.of_bls j1;exact ?Mf) ?B ?B he
theorem Hd (hk:?Z)(hm:X.mg "any" = none)(hg:Gl X "any")(ha:?NC)(he:?zG:=by rfl):P3 X Γ (.Call (.Name "any" p) [a] [] pos) ?Kd:=
 ZT (oM hk) hg hm FW ?CM (fun vs H F Q fh i k=>by
  obtain⟨v,rfl,j0⟩:=Ui i;obtain⟨l,xs,rfl,s1,j1⟩:=ze j0;cases IsL.of_bls j1;exact ?Mf) ?B ?B he
end
def ZI (L:Bool):HO->Bool
 |.lst _=>!L
 |.ins _ _ _=>true
 |.ext _=>true
 |.dK _=>true
 |.dT _=>true
 |_=>false
def uc (L:Bool)(Ω:Om):Prop:=∀ q∈Ω,∀ F o,q.2 F o->ZI L o=true
theorem Ua:uc L []:=fun q hq=>absurd hq (by simp)
theorem qW(h:∀ F o,w F o->ZI L o=true)(t:?Gm):uc L ((a,w)::Ω):=fun q hq=>by
 rcases yG.mp hq with z|z
 .subst z;exact h
 .exact t q z
theorem vm {K:?A1}{ds:?A7}:∀ F o,YW K ds F o->ZI false o=true:=fun F o ⟨xs,e,_⟩=>by subst e;rfl
def ny (K:?A1)(w:Ow)(d:D):Prop:=∀ (F F':Hp) (a:Addr) (o:HO),Yh F F'->F' a=some o->w F o->Is K F' d ?AB
theorem Ko {K:?A1}{ds:?A7}:ny K ?Gp ?BP:=fun F F' a o e ha ⟨xs,ho,il⟩=>by
 subst ho;exact Is.lstI (.inl ha) ?Im
def ln (K:?A1)(Ω:Om)(Γ Γ':Ga):Prop:=∀ (i:Nat) (d:D),Γ'[i]?=some ?D2->Γ[i]?=some ?D2∨∃ a w,Γ[i]?=some (some ?Av)/\(a,w)∈Ω/\ny K w d
theorem qV {K:?A1}{Ω:Om}{Γ:Ga}:ln K Ω Γ Γ:=fun i d h=>.inl h
theorem zl {K:?A1}{Ω:Om}{Γ Γ':Ga}{i:Nat}{a:Addr}{w:Ow}{d:D}(h:?Kk)(hi:?vF)(hm:(a,w)∈Ω)(hl:ny K w d):ln K Ω Γ (Γ'.set i ?D2):=fun j e q=>by
 rw[qN] at q;by_cases hj:i=j
 .rw[yf hj] at q;split at q
  .cases q;exact .inr ⟨a,w,hj▸hi,hm,hl⟩
  .cases q
 .rw[ye hj] at q;exact h j e q
def ZW (Ω:Om)(F H:Hp):Hp:=fun b=>if b∈Ω.map ?C then H b else F b
def KO (Ω:Om)(F:Hp):Hp:=fun b=>if b∈Ω.map ?C then none else F b
mutual
noncomputable def jL (L:Bool):D->Bool
 |.non=>true
 |.bl _=>true
 |.int _=>true
 |.str _=>true
 |.tup ds=>zB L ds
 |.lst ds=>L&&zB L ds
 |.dk _ ds=>zB L ds
 |_=>false
noncomputable def zB (L:Bool):List D->Bool
 |[]=>true
 |d::ds=>jL L d&&zB L ds
end
section
variable {L:Bool}{K:?A1}{B:Bs}{Γ Γ':Ga}{Ω:Om}{F F1:Hp}{σ:?AY}{H H1:Hp}
theorem Sat.notin (S:?BE)(e:F b=some u):b∉Ω.map ?C:=fun z=>by
 obtain⟨q,hq,rfl⟩:=yn.mp z;rw[(S.own q hq).1] at e;cases e
theorem Sat.addSame (S:?BE):Yh F ?Bp:=fun b u e=>by
 unfold ZW;rw[ye (S.notin e)];exact e
theorem Sat.addSub (S:?BE):Yh ?Bp H:=fun b u e=>by
 unfold ZW at e;split at e
 .exact e
 .exact ?Lz
theorem Sat.lent (S:?BE)(h:?Kk):Sl K ?Bp Γ' σ:=fun i d q=>by
 rcases h i d q with z|⟨a,w,z,m,l⟩
 .obtain⟨v,h1,h2⟩:=S.sl i d z;exact⟨v,h1,h2.mono S.addSame⟩
 .obtain⟨v,h1,h2⟩:=S.sl i _ z;cases isR h2;obtain⟨fa,o,ha,ho⟩:=S.own (a,w) m;refine⟨_,h1,l F _ a o S.addSame ?_ (ho F ?AE)⟩;unfold ZW;rw[yf (yn.mpr ⟨(a,w),m,rfl⟩)];exact ha
theorem Sat.back (S:?BE)(p:Pur ?Bp H F1 H1):Pur F H (KO Ω F1) H1:=by
 refine⟨fun b u e=>?_,fun b u e=>?_,p.hh,fun b q=>?_⟩
 .unfold KO;rw[ye (S.notin e)];exact p.ff _ _ (S.addSame _ _ e)
 .unfold KO at e;split at e
  .cases e
  .exact p.fh _ _ e
 .unfold KO at q;split at q
  .exact absurd rfl q
  .rename_i hn;rcases p.new b q with z|z
   .unfold ZW at z;rw[ye hn] at z;exact ?BY
   .exact ?D5
mutual
theorem bP (hh:∀ b∈Ω.map ?C,∀ o,F1 b=some o->ZI L o=true):∀ {d:D} {v:V},jL L d=true->Is K F1 d v->Is K (KO Ω F1) d v
 |.non,v,_,h=>by simp only[Is] at h ⊢;exact h
 |.bl _,v,_,h=>by simp only[Is] at h ⊢;exact h
 |.int _,v,_,h=>by simp only[Is] at h ⊢;exact h
 |.str _,v,_,h=>by simp only[Is] at h ⊢;exact h
 |.tup ds,v,hs,h=>by
  rw[jL] at hs;obtain⟨a,xs,rfl,h1,h2⟩:=isT h;refine Is.tupI ?_ (wY hh hs h2);have keep:∀ o,F1 a=some o->ZI L o=false->KO Ω F1 a=some o:=fun o e n=>by
   unfold KO;rw[ye fun z=>by rw[hh a z o e] at n;cases n];exact e
  rcases h1 with (h1|⟨o,h1⟩)|h1
  .exact .inl (.inl (keep _ h1 rfl))
  .exact .inl ?NW
  .exact .inr h1
 |.raw _,_,h,_=>by simp[jL] at h
 |.lst ds,v,hs,h=>by
  rw[jL,Yw] at hs;obtain⟨a,xs,rfl,h1,h2⟩:=cw h;refine Is.lstI ?_ (wY hh hs.2 h2);have keep:∀ o,F1 a=some o->ZI L o=false->KO Ω F1 a=some o:=fun o e n=>by
   unfold KO;rw[ye fun z=>by rw[hh a z o e] at n;cases n];exact e
  rcases h1 with h1|⟨o,h1⟩
  .exact .inl (keep _ h1 (by rw[hs.1];rfl))
  .exact ?NW
 |.dk ks ds,v,hs,h=>by
  rw[jL] at hs;simp only[Is] at h ⊢;obtain⟨a,xs,o,e1,e2,e3,e4⟩:=h;refine⟨a,xs,o,e1,?_,e3,wY hh hs e4⟩;unfold KO;rw[ye fun z=>by have:=hh a z _ e2;cases this];exact e2
 |.dt _ _,_,h,_=>by simp[jL] at h
 |.obj _ _ _,_,h,_=>by simp[jL] at h
 |.exc _,_,h,_=>by simp[jL] at h
 |.scr _,_,h,_=>by simp[jL] at h
theorem wY (hh:∀ b∈Ω.map ?C,∀ o,F1 b=some o->ZI L o=true):∀ {ds:List D} {xs:List V},zB L ds=true->IsL K F1 ds xs->IsL K (KO Ω F1) ds xs
 |[],xs,_,h=>by simp only[IsL] at h ⊢;exact h
 |d::ds,xs,hs,h=>by
  rw[zB,Yw] at hs;simp only[IsL] at h ⊢;obtain⟨x,r,e,h1,h2⟩:=h;exact⟨x,r,e,bP hh hs.1 h1,wY hh hs.2 h2⟩
end
theorem Sat.hard (S:?BE)(hd:?Gm)(p:Pur ?Bp H F1 H1):∀ b∈Ω.map ?C,∀ o,F1 b=some o->ZI L o=true:=fun b hb o e=>by
 obtain⟨q,hq,rfl⟩:=yn.mp hb;obtain⟨_,o',h1,h2⟩:=S.own q hq;have e1:=p.fh _ _ e;rw[p.hh _ _ h1] at e1;cases e1;exact hd q hq F _ (h2 F ?AE)
end
section
theorem kL (h:P3 X Γ' e d)(hl:ln X.K Ω Γ Γ')(hd:?Gm)(hs:jL L d=true)(r:R d Ω):?Eg:=fun F σ H S=>
 h.we ⟨?Bp,?J0,S.lent hl,fun v H' F' p i=>⟨d,Ω,?J2,?Hf,(?Gj).ff,?OL,r⟩⟩
theorem nI (h:PT3 X Γ' e k)(hl:ln X.K Ω Γ Γ')(r:RT k Ω):?PM:=fun F σ H S=>
 h.wt ⟨?Bp,?J0,S.lent hl,fun H' F' p=>⟨Ω,?J2,?Hf,(?Gj).ff,r⟩⟩
end
end L3
namespace L2
open PySem PySem.Spec PySem.Calls PyProof.Rows
def YZ (K:?A1)(C:Addr)(m q:Str)(st:Stmt)(ps:?A0):Prop:=∃ f fd,Fun K m q st f fd/\Meth K C m f/\vc K fd ps []
def OkM (P:?A6)(w:?A5)(K:?A1)(mg:?G)(base:Heap)(CX:CXT)(k:Nat)(C:Addr)(m:Str)(ps:?A0)(sp:Sp):Prop:=∃ f fd,FnOk P w K mg base CX k f fd ps sp/\Meth K C m f/\vc K fd ps []
def vG (K:?A1)(mg:?G)(x:Str)(C:Addr)(q:Str)(st:Stmt)(ps:?A0):Prop:=∃ f fd,Fun K "__init__" q st f fd/\Mk K C f/\mg x=some ?AF/\vc K fd ps []
def OkI (P:?A6)(w:?A5)(K:?A1)(mg:?G)(base:Heap)(CX:CXT)(k:Nat)(x:Str)(C:Addr)(ps:?A0)(sp:Sp):Prop:=∃ f fd,FnOk P w K mg base CX k f fd ps sp/\Mk K C f/\mg x=some ?AF/\vc K fd ps []
theorem jM {K:?A1}{C:Addr}{m q:Str}{st:Stmt}(ps:?A0){f:Addr}{oc:?AK}{od an:?F6}{osl:?Ei}{kV doc pm cdv ct:?AK}
  (a:W.findIn K ?AF m=some ?DG) (i:W.isFn K ?Al=true) (l:K.lookup f=some ⟨oc,od,.func ?MS,osl⟩)
  (c:W.codeIn K cdv q=true) (k:?vI)
  (hb:∀ (kV doc pm:Value) (an:Option Addr) (cdv ct:Value) (us:List Value),us.length=ps.length->bindArgs ?MS ?jB=pure ?DW):YZ K C m q st ps:=
 have F:=bu (st:=st) l c k
 ⟨f,_,F,⟨a,i,k⟩,?M0⟩
theorem aR {K:?A1}{h:Heap}{mg:?G}(X:?EM)(G:?KO){x:Str}{C:Addr}{q:Str}{st:Stmt}(ps:?A0){f:Addr}{oc:?AK}{od an:?F6}{osl:?Ei}{kV doc pm cdv ct:?AK}
  (g:W.nsIn K mainGlobals x=some (some ?AF)) (a:W.findIn K ?AF "__init__" = some ?DG) (mk:W.makesIn K C=true) (i:W.isFn K ?Al=true) (kc:W.keepIn K ?AF=true)
  (l:K.lookup f=some ⟨oc,od,.func (W.fnOf "__init__" q (Ju st) ?Ae ?BS .none kV doc pm an cdv ct),osl⟩)
  (c:W.codeIn K cdv q=true) (k:?vI)
  (hb:∀ (kV doc pm:Value) (an:Option Addr) (cdv ct:Value) (us:List Value),us.length=ps.length->bindArgs (W.fnOf "__init__" q (Ju st) ?Ae ?BS .none kV doc pm an cdv ct) ?jB=pure ?DW):?Of:=
 have F:=bu (st:=st) l c k
 ⟨f,_,F,⟨mk,a,i,kc⟩,W.mg_of X G g,?M0⟩
section
variable {P:?A6}{w:?A5}{K:?A1}{mg:?G}{base:Heap}{C:Addr}{m q x:Str}{st:Stmt}{N ps:?A0}{k:Nat}{sp:Sp}
theorem YZ.ok (d:YZ K C m q st ps)(S:?BW)(len:∀ vs H Q E,?wZ)
  (hbody:∀ (f:Addr) (cdv:Value) (A:Around) (outer:List Env) (s:Shared) (H:Hp) (vs:List V) (Q:VK) (E:XK),Room k ?CI->sp vs H Q E->
   ∃ t,PSs (?MZ).nox ?Ae t/\t {nx:=fun _ H'=>?Aq,rt:=Q} ?E6 H):OkM P w K mg base CX0 (k+1) C m ps sp:=by
 obtain⟨f,fd,F,hm,b⟩:=d;exact⟨f,fd,F.ok S len fun cdv A outer s H vs Q E hr h=>?JD,hm,b⟩
theorem vG.ok (d:?Of)(S:?BW)(len:∀ vs H Q E,?wZ)
  (hbody:∀ (f:Addr) (cdv:Value) (A:Around) (outer:List Env) (s:Shared) (H:Hp) (vs:List V) (Q:VK) (E:XK),Room k ?CI->sp vs H Q E->
   ∃ t,PSs (?MZ).nox ?Ae t/\t {nx:=fun _ H'=>?Aq,rt:=Q} ?E6 H):OkI P w K mg base CX0 (k+1) x C ps sp:=by
 obtain⟨f,fd,F,hm,g,b⟩:=d;exact⟨f,fd,F.ok S len fun cdv A outer s H vs Q E hr h=>?JD,hm,g,b⟩
end
theorem eF:∀ {fs:List (Str×V)},(∀ p∈fs,p.1≠f)->V9 f v fs=fs++[(f,v)]
 |[],_=>rfl
 | (g,x)::r,h=>by
  rw[V9,ye (h (g,x) (by simp)),eF fun p hp=>h p (yb _ hp)];rfl
end L2
namespace L3
open PySem PySem.Spec PySem.Calls PyProof.Rows L2
def zi (K:?A1)(C:Addr)(fs:?A0)(ds:?A7):Ow:=fun F o=>∃ dx xs,o=.ins C dx ?FC/\fs.length=xs.length/\IsL K F ds xs
theorem Vf {K:?A1}{C:Addr}{fs:?A0}{ds:?A7}{L:Bool}:∀ F o,zi K C fs ds F o->ZI L o=true:=fun F o ⟨dx,xs,e,_⟩=>by subst e;rfl
theorem Z8 {K:?A1}{C:Addr}{fs:?A0}{ds:?A7}:ny K ?LG (.obj C fs ds):=fun F F' a o e ha ⟨dx,xs,ho,hl,il⟩=>by
 subst ho;simp only[Is];exact⟨a,dx,xs,rfl,ha,hl,?Im⟩
theorem isO {K:?A1}{F:Hp}{C:Addr}{fs:?A0}{ds:?A7}{v:V}(h:Is K F (.obj C fs ds) v):∃ a dx xs,v=.ref a/\F a=some (.ins C dx ?FC)/\fs.length=xs.length/\IsL K F ds xs:=by simpa only[Is] using h
theorem cB {K:?A1}{F:Hp}{f:Str}{d:D}:∀ {fs:List Str} {ds:List D} {xs:List V},IsL K F ds xs->(fs.zip ds).lookup f=some d->∃ x,(?FC).lookup f=some x/\Is K F d x
 |[],_,_,_,h=>by simp at h
 |g::fs,[],_,_,h=>by simp at h
 |g::fs,e::ds,xs,il,h=>by
  simp only[IsL] at il;obtain⟨x,r,rfl,i1,i2⟩:=il;rw[Yb,Yy] at h ⊢;cases q:f==g with
  |true=>rw[q] at h;cases h;exact⟨x,rfl,i1⟩
  |false=>rw[q] at h;exact cB i2 h
theorem ZC:∀ {fs:List Str} {xs:List V},f∉fs->(?FC).lookup f=none
 |[],_,_=>by simp
 |g::fs,[],_=>by simp
 |g::fs,x::xs,h=>by
  rw[Yb,Yy];have hg:f≠g:=fun z=>h (by simp[z]);rw[show(f==g)=false from beq_eq_false_iff_ne.mpr hg];exact ZC fun z=>h ?D0
theorem dE:∀ {fs:List Str} {xs:List V},fs.length=xs.length->fs.zip xs++[(f,x)]=(fs++[f]).zip (xs++[x])
 |[],[],_=>rfl
 |g::fs,y::xs,h=>by
  rw[Yb,YQ,YQ,YQ,Yb,dE (by simpa using h)]
section
theorem zd (he:P3 X Γ e (.obj C fs ds))(c:?CP)(n:?GN)(l:(fs.zip ds).lookup f=some d)(hb:?uW:=by rfl):P3 X Γ ?HW d:=
 PE.of (gi he hb) fun σ H Q ⟨F,fh,sl,k⟩=>⟨F,fh,sl,fun v H' F' p i=>by
  obtain⟨a,dx,xs,rfl,ha,hl,il⟩:=isO i;obtain⟨x,h1,h2⟩:=cB il l;exact⟨a,C,dx,_,x,rfl,p.fh _ _ ha,c,n,h1,k _ _ _ p h2⟩⟩
theorem jT {a:Addr}(he:P3 X Γ e ?Av)(hm:(a,?Ki)∈Ω)(c:?CP)(n:?GN)(l:(fs.zip ds).lookup f=some d)(r:R d Ω)(hb:?uW:=by rfl):V3 X B ?HW Γ Ω R:=fun F σ H S pins s I=>
 gi he hb pins s σ H _ I ⟨F,S.fh,S.sl,fun v H' F' pu i=>by
  cases isR i;have S1:=S.pur pu;obtain⟨fa,o',ha,ho⟩:=S1.own _ hm;obtain⟨dx,xs,rfl,hl,il⟩:=ho F' ?AE;obtain⟨x,h1,h2⟩:=cB il l;exact⟨a,C,dx,_,x,rfl,ha,c,n,h1,d,Ω,F',S1,pu.ff,h2,r⟩⟩
theorem zh(ho:P3 X Γ o ?Av)(c:?CP)(n:?GN)
  (h:V3 X B e Γ Ω fun d Ω1=>∃ fs ds Ω2,Ω1.Perm ((a,?Ki)::Ω2)/\f∉fs/\fs.length<1000/\W3 X B rest Γ ((a,zi X.K C (fs++[f]) (ds++[d]))::Ω2) E)
  (hs:swapsWith e ?NT pos.line X.env=pure false:=by rfl):W3 X B (.Assign [.Attribute o f pos'] e pos::rest) Γ Ω E:=fun F σ H S pins s I=>
 qd (Ge ho jl hs) Qg pins s σ H _ I ((?AP).mono fun v H1 ⟨d,Ω1,F1,S1,f1,i1,fs,ds,Ω2,pm,hf,hz,h1⟩=>⟨F1,S1.fh,S1.sl,fun y H2 F2 p2 i2=>by
  cases isR i2;have S2:=(?Gg).perm pm.symm;obtain⟨fa,o',ha,ho'⟩:=S2.own (a,?Ki) (by simp);obtain⟨dx,xs,rfl,hl,il⟩:=ho' F2 ?AE;refine⟨a,C,dx,_,rfl,ha,c,n,by rw[Y3,←hl];lia,?_⟩;rw[eF (f:=f) (v:=v) (fs:=?FC) (fun q hq z=>hf (by rw[←z];exact(QG hq).1)),dE hl];exact qF (f1.trans p2.ff) (h1 F2 σ _ (S2.turn fun F3 e3=>⟨dx,xs++[v],rfl,by rw[yK,yK,hl];rfl,(il.mono e3).append (IsL.cons (i1.mono (p2.ff.trans e3)) IsL.nil)⟩))⟩)
end
def spF (K:?A1)(n:Nat)(C:?jU):Sp:=fun vs H Q _=>∃ ds gs F,C ds gs/\ds.length=n/\Yh F H/\IsL K F ds vs/\∀ p xs H' F',Pur F H F' H'->H p=none->F' p=none->H' p=some ?Aa->IsL K F' gs xs->Q ?Bw H'
def spI (K:?A1)(n:Nat)(Cc:Addr)(C:?wW):Sp:=fun vs H Q _=>∃ (a:Addr) (us:List V) (ds:List D) (r:List Str×List D) (F:Hp) (dx:Addr),vs=.ref a::us/\ds.length+1=n/\Yh F H/\F a=none/\H a=some (.ins Cc dx [])/\IsL K F ds us/\C ds r/\
 ∀ (H' F':Hp) (dx':Addr) (xs:List V),Yh F F'->Yh F' H'->?uX->?kH->F' a=none->H' a=some (.ins Cc dx' (r.1.zip xs))->r.1.length=xs.length->IsL K F' r.2 xs->Q .non H'
theorem spF.len {K:?A1}{n:Nat}{C:?jU}{vs:?AL}{H:Hp}{Q:VK}{E:XK}(h:spF K n C vs H Q E):?wI:=by
 obtain⟨ds,d,F,_,l,_,i,_⟩:=h;rw[i.len,l]
theorem spI.len {K:?A1}{n:Nat}{Cc:Addr}{C:?wW}{vs:?AL}{H:Hp}{Q:VK}{E:XK}(h:spI K n Cc C vs H Q E):?wI:=by
 obtain⟨a,us,ds,r,F,dx,rfl,l,_,_,_,i,_⟩:=h;rw[yw,i.len,l]
section
theorem iU(h:spP X.K n C vs H Q E)
  (body:∀ (ds:List D) (r:D),C ds r->∀ B:Bs,B.M=[]->W3 X B sts ?Bz [] ?wN):∃ t,PSs X sts t/\t {nx:=fun _ H'=>?Aq,rt:=Q} ?Cw H:=by
 refine ?DU;obtain⟨ds,r,F,hC,hl,fh,il,q⟩:=h;refine Qs (D:=E3.to X.K ?zS F ?wN) (D':={nx:=fun _ H'=>?Aq,rt:=Q}) ?_ ?_ ?_ ?_ (body ds r hC ?zS rfl F ?Cw H ?GK)
 .rintro σ' H' ⟨Γ',Ω',F',S',f',e⟩;subst e;exact ?Og
 .rintro v H' ⟨d',Ω',F',⟨σ',S'⟩,f',i',e⟩;subst e;exact q _ _ _ ?F9 i'
 .rintro σ' H' ⟨_,_,_,_,_,z⟩;exact ?AR
 .rintro σ' H' ⟨_,_,_,_,_,z⟩;exact ?AR
theorem eY(h:spF X.K n C vs H Q E)
  (body:∀ (ds gs:List D),C ds gs->∀ B:Bs,B.M=[]->W3 X B sts ?Bz [] ⟨fun _ _=>?AC,fun r Ω=>∃ p,r=.raw (.ref p)/\Ω=[(p,?B5)],fun _ _=>?AC,fun _ _=>?AC⟩):∃ t,PSs X sts t/\t {nx:=fun _ H'=>?Aq,rt:=Q} ?Cw H:=by
 refine ?DU;obtain⟨ds,gs,F,hC,hl,fh,il,q⟩:=h;refine Qs (D:=E3.to X.K ?zS F ⟨fun _ _=>?AC,fun r Ω=>∃ p,r=.raw (.ref p)/\Ω=[(p,?B5)],fun _ _=>?AC,fun _ _=>?AC⟩) (D':={nx:=fun _ H'=>?Aq,rt:=Q}) ?_ ?_ ?_ ?_ (body ds gs hC ?zS rfl F ?Cw H ?GK)
 .rintro σ' H' ⟨_,_,_,_,_,z⟩;exact ?AR
 .rintro v H' ⟨d',Ω',F',⟨σ',S'⟩,f',i',p,rfl,rfl⟩;cases isR i';obtain⟨fa,o,ha,ho⟩:=S'.own (p,?B5) (by simp);obtain⟨xs,rfl,il'⟩:=ho F' ?AE;refine q p xs H' F' ?F9 ?_ fa ha il';rcases S'.od (p,?B5) (by simp) with z|z
  .cases z
  .exact z
 .rintro σ' H' ⟨_,_,_,_,_,z⟩;exact ?AR
 .rintro σ' H' ⟨_,_,_,_,_,z⟩;exact ?AR
theorem gR(h:spI X.K n Cc C vs H Q E)
  (body:∀ (a:Addr) (ds:List D) (r:List Str×List D),C ds r->∀ B:Bs,B.M=[a]->W3 X B sts (jw N ?zJ) [(a,zi X.K Cc [] [])] ⟨fun _ Ω=>Ω=[(a,zi X.K Cc r.1 r.2)],fun _ _=>?AC,fun _ _=>?AC,fun _ _=>?AC⟩):∃ t,PSs X sts t/\t {nx:=fun _ H'=>?Aq,rt:=Q} ?Cw H:=by
 refine ?DU;obtain⟨a,us,ds,r,F,dx,rfl,hl,fh,fa,ha,il,hC,q⟩:=h;have il':IsL X.K F (.raw (.ref a)::ds) (.ref a::us):=IsL.cons (ZD F) il;have S0:Sat X.K ⟨[a],F,H⟩ (jw N (.raw (.ref a)::ds)) [(a,zi X.K Cc [] [])] F (L2.start N (.ref a::us)) H:=by
  refine⟨?AE,fh,fun _ q=>?Bk,fun _ _ _ e=>e,by simp,fun p hp=>?_,fun p hp=>?_,Sl.start il'⟩
  .rw[yy.mp hp];exact .inl (by simp)
  .rw[yy.mp hp];exact⟨fa,_,ha,fun _ _=>⟨dx,[],rfl,rfl,?CR⟩⟩
 refine Qs (D:=E3.to X.K ⟨[a],F,H⟩ F ⟨fun _ Ω=>Ω=[(a,zi X.K Cc r.1 r.2)],fun _ _=>?AC,fun _ _=>?AC,fun _ _=>?AC⟩) (D':={nx:=fun _ H'=>?Aq,rt:=Q}) ?_ ?_ ?_ ?_ (body a ds r hC ⟨[a],F,H⟩ rfl F _ H S0)
 .rintro σ' H' ⟨Γ',Ω',F',S',f',rfl⟩;obtain⟨fa',o,ha',ho⟩:=S'.own (a,zi X.K Cc r.1 r.2) (by simp);obtain⟨dx',xs,rfl,hl',il2⟩:=ho F' ?AE;refine q H' F' dx' xs S'.f0 S'.fh (fun b o hb e=>S'.kp b o (by simpa using hb) e) ?wH fa' ha' hl' il2;rcases S'.fr b hb with z|z|z
  .exact ?BY
  .exact ?D5
  .have e:b=a:=by simpa using z
   subst e;exact absurd fa' hb
 .rintro v H' ⟨_,_,_,_,_,_,z⟩;exact ?AR
 .rintro σ' H' ⟨_,_,_,_,_,z⟩;exact ?AR
 .rintro σ' H' ⟨_,_,_,_,_,z⟩;exact ?AR
end
section
variable {P:?A6}{w:?A5}{K:?A1}{mg:?G}{base:Heap}{x m q:Str}{st:Stmt}{N ps:?A0}{k n:Nat}{Cc:Addr}
theorem uB(d:?Hc)(S:?BW)(hn:?yI)
  (body:∀ (f:Addr) (cdv:Value) (A:Around) (outer:List Env) (s:Shared) (H:Hp) (E:XK),Room k ?CI->∀ (ds:List D) (r:D),C ds r->∀ B:Bs,B.M=[]->
   W3 ?C3 B ?Ae ?Bz [] ?wN):OkM P w K mg base CX0 (k+1) Cc m ps (spP K n C):=
 d.ok S (fun vs H Q E h=>?Ou) fun f cdv A outer s H vs Q E hr h=>iU (X:=?C3) h ?JN
theorem xF(d:?Hc)(S:?BW)(hn:?yI)
  (body:∀ (f:Addr) (cdv:Value) (A:Around) (outer:List Env) (s:Shared) (H:Hp) (E:XK),Room k ?CI->∀ (ds gs:List D),C ds gs->∀ B:Bs,B.M=[]->
   W3 ?C3 B ?Ae ?Bz [] ⟨fun _ _=>?AC,fun r Ω=>∃ p,r=.raw (.ref p)/\Ω=[(p,YW K gs)],fun _ _=>?AC,fun _ _=>?AC⟩):OkM P w K mg base CX0 (k+1) Cc m ps (spF K n C):=
 d.ok S (fun vs H Q E h=>(spF.len h).trans hn.symm) fun f cdv A outer s H vs Q E hr h=>eY (X:=?C3) h ?JN
theorem CO(d:?OO)(S:?BW)(hn:?yI)
  (body:∀ (f:Addr) (cdv:Value) (A:Around) (outer:List Env) (s:Shared) (H:Hp) (E:XK),Room k ?CI->∀ (a:Addr) (ds:List D) (r:List Str×List D),C ds r->∀ B:Bs,B.M=[a]->
   W3 ?C3 B ?Ae (jw N ?zJ) [(a,zi K Cc [] [])] ⟨fun _ Ω=>Ω=[(a,zi K Cc r.1 r.2)],fun _ _=>?AC,fun _ _=>?AC,fun _ _=>?AC⟩):OkI P w K mg base CX0 (k+1) x Cc ps (spI K n Cc C):=
 d.ok S (fun vs H Q E h=>(spI.len h).trans hn.symm) fun f cdv A outer s H vs Q E hr h=>gR (X:=?C3) h ?JN
end
section
theorem WZ {p:Addr}(pu:?LL)(hp:H p=none)(fp:F' p=none)(e:H' p=some u):Pur F H (upd F' p u) H'/\Yh F' (upd F' p u):=by
 have w:Yh F' (upd F' p u):=fun b y q=>by rw[yR (Yo q fp)];exact q
 refine⟨⟨?L8,fun b y q=>?_,pu.hh,fun b q=>?_⟩,w⟩
 .by_cases hb:b=p
  .subst hb;rw[yX] at q;cases q;exact e
  .rw[yR hb] at q;exact ?LZ
 .by_cases hb:b=p
  .subst hb;exact .inr hp
  .rw[yR hb] at q;exact ?Lv
theorem K4 {C:?H}{pl:?Gi}(ok:OkM X.prog X.w X.K X.mg X.base CX0 k Cc m ps (spP X.K n C))(c:?E3)(hr:?Am)(ho:?JQ)(hm:m∉fs)(ha:?yT)(hC:C (.obj Cc fs gs::ds) d)(hn:?vQ:=by rfl)
  (hst:?T:=by rfl) (hpl:?zA:=by rfl)
  (ht:eval ?yO X.env=(do
   let ov ←eval o X.env
   standAt apos.atName
   let ?yJ ←holding [ov] (getMethod ov m pl)
   callWith pos f first ?wU ?zZ):=by rfl):P3 X Γ ?yO d:=by
 obtain⟨f,fd,F,hM,hb⟩:=ok;exact PE.of (Wb (pl:=pl) ho c hM F hr hb .nil kM ha hst hpl ht) fun σ H Q ⟨F0,fh,sl,q⟩=>⟨F0,fh,sl,fun v H1 F1 p1 i1=>by
  obtain⟨a,dx,xs,rfl,h1,hl,il⟩:=isO i1;refine⟨a,dx,_,rfl,p1.fh _ _ h1,ZC hm,F1,?Bj,?DH,fun vs H2 F2 p2 i2=>?_⟩;dsimp only;rw[yM];exact⟨_,d,F2,hC,hn,p2.fh,IsL.cons ?Hx i2,fun v' H3 F3 p3 i3=>q v' H3 F3 ((?CK).trans p3) i3⟩⟩
theorem Kv {C:?H}{pl:?Gi}(ok:?MR)(c:?E3)(hr:?Am)(ho:?JQ)(hm:m∉fs)(hC:C [.obj Cc fs gs] d)
  (ht:eval ?yQ X.env=(do
   let ov ←eval o X.env
   standAt apos.atName
   let ?yJ ←holding [ov] (getMethod ov m pl)
   callWith pos f first ?wV ?zZ):=by rfl):P3 X Γ ?yQ d:=by
 obtain⟨f,fd,F,hM,hb⟩:=ok;exact PE.of ?Mp fun σ H Q ⟨F0,fh,sl,q⟩=>⟨F0,fh,sl,fun v H1 F1 p1 i1=>by
  obtain⟨a,dx,xs,rfl,h1,hl,il⟩:=isO i1;refine ?Mm;exact⟨_,d,F1,hC,rfl,?Bj,?Jx,fun v' H3 F3 p3 i3=>q v' H3 F3 ?Lb i3⟩⟩
theorem JR {C:?jU}{pl:?Gi}(ok:OkM X.prog X.w X.K X.mg X.base CX0 k Cc m ps (spF X.K 1 C))(c:?E3)(hr:?Am)(ho:?JQ)(hm:m∉fs)(hC:C [.obj Cc fs gs] ds)
  (ht:eval ?yQ X.env=(do
   let ov ←eval o X.env
   standAt apos.atName
   let ?yJ ←holding [ov] (getMethod ov m pl)
   callWith pos f first ?wV ?zZ):=by rfl):PF3 X Γ ?yQ ds:=by
 obtain⟨f,fd,F,hM,hb⟩:=ok;exact PE.of ?Mp fun σ H Q ⟨F0,fh,sl,q⟩=>⟨F0,fh,sl,fun v H1 F1 p1 i1=>by
  obtain⟨a,dx,xs,rfl,h1,hl,il⟩:=isO i1;refine ?Mm;exact⟨_,ds,F1,hC,rfl,?Bj,?Jx,fun b xs H2 F2 p2 hb fb e2 il2=>q b xs H2 F2 ?CK (p1.hh.free hb) fb e2 il2⟩⟩
theorem rF(ok:OkI X.prog X.w X.K X.mg X.base CX0 k x Cc ps (spI X.K n Cc C))(hr:?vL)(hg:?Ai)(ha:?yT)(hC:C ds r)(hn:?vQ:=by rfl)(hdb:?L:=by decide)
  (he:?T:=by rfl) (hpl:?zA:=by rfl):P3 X Γ ?yP (.obj Cc r.1 r.2):=by
 obtain⟨f,fd,F,M,hm,hb⟩:=ok;exact PE.of (cj M F hr hg hm hb .nil kM ha hdb he hpl) fun σ H Q ⟨F0,fh,sl,q⟩=>⟨F0,fh,sl,fun vs H1 F1 p1 i1 a dx ha' hdx hne=>by
  rw[yM];have f1:F1 a=none:=p1.fh.free ha';have sm:Yh H1 (upd (upd H1 dx (.own a)) a (.ins Cc dx [])):=fun b u e1=>by
   rw[yR (Yo e1 ha'),yR (Yo e1 hdx)];exact e1
  refine⟨a,vs,ds,r,F1,dx,rfl,hn,p1.fh.trans sm,f1,yX,i1,hC,fun H' F' dx' xs g1 g2 g3 g4 g5 g6 g7 g8=>⟨rfl,?_⟩⟩;have pu:Pur F1 H1 F' H':=by
   refine⟨g1,g2,fun b u e1=>?N8,fun b e1=>?_⟩;rcases g4 b e1 with z|z
   .exact ?BY
   .exact .inr (sm.free z)
  obtain⟨pf,w⟩:=WZ pu ha' g5 g6;refine q _ _ _ ?La ?_;simp only[Is];exact ?Mv⟩
end
end L3
namespace L2
open PySem PySem.Spec PySem.Calls PyProof.Rows
abbrev K2:=Sum Key ?Aj
theorem Wn(r:?Lh):(?Bf).is k u=true:=by
 cases k with
 |inl i=>obtain⟨t,q⟩:=(show ∃ t,u=Value.int i t from r);subst q;exact beq_self_eq_true i
 |inr x=>obtain⟨t,q⟩:=(show ∃ t,u=Value.str x t from r);subst q;exact beq_self_eq_true x
theorem Ul:∀ {ks:List Key} {us:List Value},qc ?Ic us->ItemsAre ?Bf ks us
 |[],_,h=>by cases h;exact .nil
 |k::ks,_,h=>by
  cases h with
  |cons r t=>exact .cons (Wn r) (Ul t)
def Vk (h:Heap)(ks:?Aj)(a:Addr):Prop:=∃ us:List Value,h.IsTuple a us.toArray/\qc ?Ic us
def KZ (h:Heap):K2->Value->Prop
 |.inl k,v=>YV (kV k) v
 |.inr ks,v=>∃ a,v=.ref a/\Vk h ks a
def K9 (h:Heap)(ks:?Az)(a:Addr):Prop:=∃ us:List Value,h.IsTuple a us.toArray/\Paired (KZ h) ks us
theorem Vk.key(x:Vk h ks a):IsTupleKey ?Bf h ks a:=by
 obtain⟨us,⟨o,e1,c1,n,d1⟩,r⟩:=x;exact⟨o,us.toArray,n,e1,c1,d1,by simpa using Ul r⟩
theorem IsTuple.one {h:Heap}{a:Addr}{us vs:?AX}(x:h.IsTuple a us.toArray)(y:h.IsTuple a vs.toArray):us=vs:=by
 obtain⟨o,e1,c1,n,d1⟩:=x;obtain⟨o',e2,c2,n',d2⟩:=y;rw[e1] at e2;cases e2;rw[d1] at d2;injection d2 with z _;injection z
theorem Ao(x:YV (kV k) v)(y:YV (kV k') v):k=k':=by
 cases k <;> cases k' <;> obtain⟨t1,e1⟩:=x <;> obtain⟨t2,e2⟩:=y <;> rw[e1] at e2 <;> cases e2 <;> rfl
theorem qc.keys_inj:∀ {x y:List Key} {us:List Value},qc (x.map kV) us->qc (y.map kV) us->x=y
 |[],[],_,_,_=>rfl
 |[],_::_,_,h1,h2=>by cases h1;cases h2
 |_::_,[],_,h1,h2=>by cases h2;cases h1
 |k::ks,k'::ks',_,h1,h2=>by
  cases h1 with
  |cons r1 t1=>
   cases h2 with
   |cons r2 t2=>rw[Ao r1 r2,qc.keys_inj t1 t2]
theorem Vk.inj {h:Heap}{a:Addr}{x y:?Aj}(p:Vk h x a)(q:Vk h y a):x=y:=by
 obtain⟨us,t1,r1⟩:=p;obtain⟨vs,t2,r2⟩:=q;cases IsTuple.one t1 t2;exact r1.keys_inj r2
theorem KZ.inj(p:KZ h x v)(q:KZ h y v):x=y:=by
 cases x with
 |inl k=>
  cases y with
  |inl k'=>rw[Ao p q]
  |inr ks=>
   obtain⟨a,rfl,_⟩:=q;cases k <;> (obtain⟨t,z⟩:=p;cases z)
 |inr ks=>
  cases y with
  |inl k=>
   obtain⟨a,rfl,_⟩:=p;cases k <;> (obtain⟨t,z⟩:=q;cases z)
  |inr ks'=>
   obtain⟨a,rfl,t1⟩:=p;obtain⟨b,z,t2⟩:=q;cases z;rw[t1.inj t2]
theorem Its2.inj:∀ {x y:List K2} {us:List Value},Paired (KZ h) x us->Paired (KZ h) y us->x=y
 |[],[],_,_,_=>rfl
 |[],_::_,_,h1,h2=>by cases h1;cases h2
 |_::_,[],_,h1,h2=>by cases h2;cases h1
 |k::ks,k'::ks',_,h1,h2=>by
  cases h1 with
  |cons r1 t1=>
   cases h2 with
   |cons r2 t2=>rw[KZ.inj r1 r2,Its2.inj t1 t2]
theorem K9.inj {h:Heap}{a:Addr}{x y:?Az}(p:K9 h x a)(q:K9 h y a):x=y:=by
 obtain⟨us,t1,r1⟩:=p;obtain⟨vs,t2,r2⟩:=q;cases IsTuple.one t1 t2;exact Its2.inj r1 r2
theorem XJ(x:h.IsTuple a us)(e:h.get? d=some o)(hd:?jZ)(sb:?Jy):h'.IsTuple a us:=by
 obtain⟨o',e1,c1,n,d1⟩:=x;have ne:a≠d:=fun z=>by
  subst z;rw[e] at e1;cases e1;rw[hd] at d1;cases d1
 exact⟨o',(sb.2 a ne).trans e1,c1,n,d1⟩
theorem Vk.keeps(x:Vk h ks a)(e:h.get? d=some o)(hd:?jZ)(sb:?Jy):Vk h' ks a:=by
 obtain⟨us,t1,r1⟩:=x;exact⟨us,XJ t1 e hd sb,r1⟩
theorem K9.keeps(x:K9 h ks a)(e:h.get? d=some o)(hd:?jZ)(sb:?Jy):K9 h' ks a:=by
 obtain⟨us,t1,r1⟩:=x;refine⟨us,XJ t1 e hd sb,Paired.mapP r1 fun k v q=>?_⟩;cases k with
 |inl k=>exact q
 |inr ks=>
  obtain⟨b,e1,t2⟩:=q;exact⟨b,e1,t2.keeps e hd sb⟩
section
def h2 (P:?A6)(w:?A5):K2->Int
 |.inl k=>(?Bf).hash k
 |.inr ks=>tupleKeyHash ?Bf ks
def n2:K2->Nat
 |.inl _=>1
 |.inr ks=>ks.length+1
def rj (P:?A6)(w:?A5)(ks:?Az):Int:=reduceHash (Builtin.Tuple.tupleHashOf (ks.map (h2 P w)))
def lC (ks:?Az):Nat:=(ks.map n2).sum+1
theorem Ck {Q:Int->Shared->Prop}(hu:?yX)(x:KZ s.heap k v)(q:Q (h2 P w k) {s with toks:=s.toks+n2 k}):wpAny ?Bc A (pyHash v) Q E s:=by
 cases k with
 |inl k=>exact(?Bf).pyHash (Wn x) q
 |inr ks=>
  obtain⟨a,rfl,t⟩:=x;exact wpAny_pyHash_tuple hu (t.key (P:=P) (w:=w)) q
theorem EY {Q:Int->Shared->Prop}(hu:?wA)(x:?Kr)(q:Q (rj P w ks) {s with toks:=s.toks+lC ks}):wpAny ?Bc A (pyHash ?AB) Q E s:=by
 obtain⟨us,⟨o,ho,hc,n,hd⟩,hi⟩:=x;have hT:s.TypeIs (.ref a) "tuple" := ⟨o,ho,hc⟩
 have hu0:A.units<cLine:=by lia
 unfold pyHash
 first|unfold pyHashByItsType|skip
 first|refine ya (wpAny_cRoomFor_or (.inr hu0) ?_)|skip
 refine ya ?Mb;show wpAny _ _ (if (some (Value.builtin "tuple.__hash__")==some Value.none)=true then _ else _) Q E s;refine wpAny_ite_split (fun z=>absurd z (by rw[beq_builtin_none];exact yV)) fun _=>?_;refine ya ?Mb;show wpAny _ _ (callSpecialIfBoundUnlessNone? ?AB "__hash__" _ >>= _) Q E s;refine ya (wpAny_callSpecialIfBoundUnlessNone?_slot hT F.slot_tuple_hash (qA F.slot_tuple_hash hT F.entry_tuple_hash ?_ (F.args_tuple_hash_1 _)));show wpAny _ _ (Builtin.Tuple.tupleItemsOf ?AB >>= _) _ _ s;refine ya (wpAny_tupleItemsOf ho hd (ya ?_));rw[←Array.forIn_toList];refine wpAny_forIn_list _ (fun r (b:Array Int) t=>∃ ps qs,ks=ps++qs/\Paired (KZ s.heap) qs r/\b.toList=ps.map (h2 P w)/\t={s with toks:=s.toks+(ps.map n2).sum}) _ ?_ ?_ _ _ ⟨[],ks,rfl,by simpa using hi,rfl,rfl⟩
 .rintro v r b t ⟨ps,qs,rfl,hl,hb,rfl⟩;cases hl with
  |@cons k _ qs' _ h1 hl'=>
   refine ya (Ck (P:=P) (w:=w) (s:={s with toks:=s.toks+(ps.map n2).sum}) (by first|exact hu|exact hu0) h1 ?_)
   first
    |exact yj ⟨ps++[k],qs',by simp,hl',by simp[hb],by simp[Nat.add_assoc]⟩
    |exact ya (yj (yj ⟨ps++[k],qs',by simp,hl',by simp[hb],by simp[Nat.add_assoc]⟩))
 .rintro b t ⟨ps,qs,rfl,hl,hb,rfl⟩;cases hl;rw[yM] at q;show wpAny _ _ (retInt (Builtin.Tuple.tupleHashOf b.toList)) _ _ _;rw[hb];refine wpAny_ret_mkInt ?_;unfold rj reduceHash lC at q;show wpAny _ _ (if (decide (-(2:Int) ^ 63<=Builtin.Tuple.tupleHashOf (ps.map (h2 P w)))&&decide (Builtin.Tuple.tupleHashOf (ps.map (h2 P w))<2 ^ 63))=true then _ else _) Q E _;split
  .rename_i hr;rw[yf hr] at q;exact yj (by simpa [Nat.add_assoc] using q)
  .rename_i hr;rw[ye hr] at q;exact ya (wpAny_rule (yj (by simpa [Nat.add_assoc] using q)))
theorem BE(x:?Lh)(y:YV (kV k') v):SeqAt.EqAt A s u v (decide (k=k')):=by
 cases k with
 |inl i=>
  obtain⟨t,rfl⟩:=x;cases k' with
  |inl j=>
   obtain⟨t',rfl⟩:=y;have z:=SeqAt.EqAt.int_int (A:=A) (s:=s) i t j t'
   rwa [show(i==j)=decide ((Sum.inl i:Key)=.inl j) by rw[YG];simp] at z
  |inr j=>
   obtain⟨t',rfl⟩:=y;have z:=SeqAt.EqAt.int_str (A:=A) (s:=s) i t j t'
   rwa [show false=decide ((Sum.inl i:Key)=.inr j) by simp] at z
 |inr i=>
  obtain⟨t,rfl⟩:=x;cases k' with
  |inl j=>
   obtain⟨t',rfl⟩:=y;have z:=SeqAt.EqAt.str_int (A:=A) (s:=s) i t j t'
   rwa [show false=decide ((Sum.inr i:Key)=.inl j) by simp] at z
  |inr j=>
   obtain⟨t',rfl⟩:=y;have z:=SeqAt.EqAt.str_str (A:=A) (s:=s) i t j t'
   rwa [show(i==j)=decide ((Sum.inr i:Key)=.inr j) by rw[YG];simp] at z
theorem nH {α:Type}[DecidableEq α]{us vs:?AX}{xs ys:?Ay}(h1:?NK)(h2:s.heap.IsTuple b vs.toArray)(l1:xs.length=us.length)(l2:ys.length=vs.length)(hu:?yX)
  (he:∀ (j:Nat) (x y:α) (u v:Value),xs[j]?=some x->ys[j]?=some y->us[j]?=some u->vs[j]?=some v->SeqAt.EqAt A.in1 s u v (decide (x=y))):SeqAt.RcAt A s ?AB ?Be (decide (xs=ys)):=by
 have z:=SeqAt.RcAt.tuples (e:=fun j=>decide (xs[j]?=ys[j]?)) h1 h2 hu (fun j q1 q2=>by
  have p1:j<us.length:=by simpa using q1
  have p2:j<vs.length:=by simpa using q2
  have x1:xs[j]?=some (xs[j]'(by lia)):=yl _;have y1:ys[j]?=some (ys[j]'(by lia)):=yl _;have:=he j _ _ us[j] vs[j] x1 y1 (yl _) (yl _);simpa [x1,y1] using this)
 rwa [show((?Ma).all (fun j=>decide (xs[j]?=ys[j]?))&&us.toArray.size==vs.toArray.size)=decide (xs=ys) by
  rw[YG];simp only[yY,Yw,jZ,qS,Y0,beq_iff_eq];constructor
  .rintro⟨e1,e2⟩;refine Qw fun j=>?_;by_cases hj:j<us.length
   .exact e1 j ?A
   .rw[yE.mpr (by lia),yE.mpr ?A]
  .intro e;subst e;exact⟨fun _ _=>rfl,?A⟩] at z
theorem Vk.eq {x y:?Aj}{a b:Addr}(p:Vk s.heap x a)(q:Vk s.heap y b)(hu:?yX):SeqAt.EqAt A s ?AB ?Be (decide (x=y)):=by
 by_cases hab:a=b
 .subst hab;cases p.inj q;rw[yL rfl];exact ?Eb
 .obtain⟨us,t1,r1⟩:=p;obtain⟨vs,t2,r2⟩:=q;have l1:=r1.length;have l2:=r2.length;rw[yd] at l1 l2;refine SeqAt.EqAt.of_refs hab (nH t1 t2 l1 l2 hu fun j k k' u v e1 e2 e3 e4=>?_);obtain⟨u',z1,z2⟩:=r1.get (i:=j) (by rw[yz,e1];rfl);obtain⟨v',z3,z4⟩:=r2.get (i:=j) (by rw[yz,e2];rfl);rw[e3] at z1;cases z1;rw[e4] at z3;cases z3;exact BE z2 z4
theorem KZ.eq(p:KZ s.heap x u)(q:KZ s.heap y v)(hu:?yX):SeqAt.EqAt A s u v (decide (x=y)):=by
 cases x with
 |inl k=>
  cases y with
  |inl k'=>
   have z:=BE (A:=A) (s:=s) p q
   rwa [show decide (k=k')=decide ((Sum.inl k:K2)=.inl k') by rw[YG];simp] at z
  |inr ks=>
   obtain⟨b,rfl,vs,t2,r2⟩:=q;rw[show decide ((Sum.inl k:K2)=.inr ks)=false by simp];cases k with
   |inl i=>obtain⟨t,rfl⟩:=p;exact SeqAt.EqAt.int_tuple i t t2 hu
   |inr i=>obtain⟨t,rfl⟩:=p;exact SeqAt.EqAt.str_tuple i t t2 hu
 |inr ks=>
  cases y with
  |inl k=>
   obtain⟨b,rfl,vs,t2,r2⟩:=p;rw[show decide ((Sum.inr ks:K2)=.inl k)=false by simp];cases k with
   |inl i=>obtain⟨t,rfl⟩:=q;exact SeqAt.EqAt.tuple_int i t t2 hu
   |inr i=>obtain⟨t,rfl⟩:=q;exact SeqAt.EqAt.tuple_str i t t2 hu
  |inr ks'=>
   obtain⟨a,rfl,t1⟩:=p;obtain⟨b,rfl,t2⟩:=q;have z:=Vk.eq (A:=A) t1 t2 hu
   rwa [show decide (ks=ks')=decide ((Sum.inr ks:K2)=.inr ks') by rw[YG];simp] at z
theorem UO:∀ {l:List α} {m:List β} {i:Nat} {x:α} {y:β},Paired F l m->l[i]?=some x->m[i]?=some y->F x y
 |_,_,0,_,_,.cons r t,h1,h2=>by simp at h1 h2;subst h1 h2;exact r
 |_,_,i+1,_,_,.cons r t,h1,h2=>UO (i:=i) t (by simpa using h1) (by simpa using h2)
 |_,_,_,_,_,.nil,h1,_=>by simp at h1
theorem K9.eq {x y:?Az}{a b:Addr}(p:K9 s.heap x a)(q:K9 s.heap y b)(hu:?wA):SeqAt.EqAt A s ?AB ?Be (decide (x=y)):=by
 by_cases hab:a=b
 .subst hab;cases p.inj q;rw[yL rfl];exact ?Eb
 .obtain⟨us,t1,r1⟩:=p;obtain⟨vs,t2,r2⟩:=q;exact SeqAt.EqAt.of_refs hab (nH t1 t2 (Paired.length r1) (Paired.length r2) ?A fun j k k' u v e1 e2 e3 e4=>KZ.eq (UO r1 e1 e3) (UO r2 e2 e4) (show A.units+1<cLine from hu))
theorem af {n:Nat}{us:?AX}{Q:Bool->Shared->Prop}(t:?NK)(hi:∀ v∈us,∀ Q':Bool->Shared->Prop,Q' true s->wpAny ?Bc A (eqIsQuiet n v) Q' E s)(q:Q true s):wpAny ?Bc A (eqIsQuiet (n+1) ?AB) Q E s:=by
 obtain⟨o,ho,hc,m,hd⟩:=t;have hT:s.TypeIs (.ref a) "tuple" := ⟨o,ho,hc⟩
 unfold eqIsQuiet;refine ya (wpAny_specialOf hT F.slot_tuple_eq.lookup ?_);show wpAny _ _ (isInstance ?AB ?zX >>= _) _ _ s;refine ya (wpAny_isInstance hT isSubtype_tuple_tuple ?_);simp only[Bool.not_true,Y9,if_false];refine ya (wpAny_seqItems ho hd (ya ?_));show wpAny _ _ (forIn us.toArray _ _) _ _ s;rw[←Array.forIn_toList];refine wpAny_forIn_list _ (fun r b t=>b.1=none/\t=s/\∀ v∈r,v∈us) _ ?_ ?_ _ _ ⟨rfl,rfl,fun v hv=>by simpa using hv⟩
 .rintro v r b t ⟨hb,rfl,hall⟩;refine ya (hi v (hall v (by simp)) _ ?_);simp only[Bool.not_true,Y9,if_false];exact yj ⟨rfl,rfl,fun u hu'=>hall u (yb _ hu')⟩
 .rintro⟨r1,r2⟩ t ⟨hr,rfl,_⟩;simp only at hr;subst hr;exact yj q
theorem VN:∀ {l:List α} {m:List β} {y:β},Paired F l m->y∈m->∃ x∈l,F x y
 |_,_,_,.nil,h=>by simp at h
 |_,_,_,.cons r t,h=>by
  rcases yG.mp h with z|z
  .subst z;exact⟨_,by simp,r⟩
  .obtain⟨x,hx,hf⟩:=VN t z;exact⟨x,?Ap,hf⟩
theorem wa(r:YV (kV k) v):carriedByValue v=true:=by
 cases k <;> (obtain⟨t,rfl⟩:=r;rfl)
theorem K9.quiet {ks:?Az}{Q:Bool->Shared->Prop}(x:?Kr)(q:Q true s):wpAny ?Bc A (eqIsQuiet 8 ?AB) Q E s:=by
 obtain⟨us,t1,r1⟩:=x;refine af t1 (fun v hv Q' q'=>?_) q;obtain⟨k,_,hk⟩:=VN r1 hv;cases k with
 |inl k=>rw[eqIsQuiet_byValue _ (wa hk)];exact yj q'
 |inr ks'=>
  obtain⟨b,rfl,vs,t2,r2⟩:=hk;refine af t2 (fun u hu Q2 q2=>?_) q';obtain⟨k',_,hk'⟩:=VN r2 hu;have:∃ c:Key,YV (kV c) u:=by
   obtain⟨i,hl,rfl⟩:=List.getElem_of_mem hu;have hl':i<ks'.length:=by have:=r2.length;rw[yd] at this;lia
   obtain⟨u',z1,z2⟩:=r2.get (i:=i) (x:=kV ks'[i]) (by rw[yz,yl hl'];rfl);rw[yl hl] at z1;cases z1;exact⟨_,z2⟩
  obtain⟨c,hc⟩:=this;rw[eqIsQuiet_byValue _ (wa hc)];exact yj q2
end
def W9 (P:?A6)(w:?A5):HeapKind P w ?Az where
 is:=K9
 hash:=rj P w
 draws:=lC
 room:=fun A=>A.units+1<cLine
 inj:=fun p q=>p.inj q
 keeps:=fun x e hd sb=>x.keeps e hd sb
 pyHash:=fun hu x q=>EY hu x q
 eqBool:=fun hu x y q=>(K9.eq x y hu) _ _ _ _ q
 quiet:=fun x q=>x.quiet q
def Z0 (P:?A6)(w:?A5)(a:Addr)(xs:?wX):HO:=.ext fun h=>?zQ=false/\∃ o es ep,h.get? a=some o/\o.ExactDict/\o.data=.dict es ep/\es.toList=xs.map ?Ok/\(?Ls).Nodup
theorem bz(x:?zQ=false/\∃ o es ep,h.get? a=some o/\o.ExactDict/\o.data=.dict es ep/\es.toList=xs.map ?Ok/\(?Ls).Nodup):qQ P w H h a (Z0 P w a xs):=by
 refine⟨x,?_,fun h1 h2 ⟨e0,o,es,ep,e,r⟩ k=>⟨e0,o,es,ep,k o e,r⟩⟩;obtain⟨_,o,_,_,e,_⟩:=x;exact ?GV
theorem lb(I:?A8):sysModules<s.heap.objs.size:=by
 have h:mainGlobals<s.heap.objs.size:=(?HJ).lt;exact ?PI
section
variable [DecidableEq κ]
def xJ (kvs:?yY)(k:κ):?Iw:=(kvs.find? fun kv=>?yU).map ?zC
def uF (kvs:?yY)(k:κ)(v:V):?yY:=
 if (kvs.any fun kv=>?yU)=true then kvs.map (fun kv=>if kv.1=k then (kv.1,v) else kv) else kvs++[(k,v)]
theorem xw {p:κ×V}{r:?yY}{k:κ}(e:p.1=k):xJ (p::r) k=some p.2:=by simp[xJ,yS,e]
theorem xc {p:κ×V}{r:?yY}{k:κ}(e:¬ p.1=k):xJ (p::r) k=xJ r k:=by simp[xJ,yS,e]
theorem dQ (k:κ):∀ kvs:List (κ×V),(kvs.any fun kv=>?yU)=(xJ kvs k).isSome
 |[]=>rfl
 |p::r=>by
  rw[JG];by_cases e:p.1=k
  .simp only[xw e,yL e,Bool.true_or,Option.isSome_some]
  .rw[xc e,yA e,Bool.false_or];exact dQ k r
theorem U3 (kvs:?yY)(k:κ)(v:V):(?GM).length<=kvs.length+1:=by
 unfold uF;split
 .rw[yd];lia
 .rw[yK,yw,qb];lia
theorem V8.isSome_eq(r:V8 o u):o.isSome=u.isSome:=by
 cases o with
 |none=>cases u with
  |none=>rfl
  |some _=>exact(show False from r).elim
 |some _=>cases u with
  |none=>exact(show False from r).elim
  |some _=>rfl
theorem V8.getD(r:V8 o u)(rd:YV d d'):YV (o.getD d) (u.getD d'):=by
 cases o with
 |none=>cases u with
  |none=>exact rd
  |some _=>exact(show False from r).elim
 |some _=>cases u with
  |none=>exact(show False from r).elim
  |some _=>exact r
theorem KV.val {kvs:?yY}{vs:List (κ×Value)}(r:?EB)(k:κ):V8 (xJ kvs k) (valueAt vs k):=by
 unfold KV at r
 induction r with
 |nil=>exact ?DT
 |@cons p q ps qs h t ih=>
  obtain⟨h1,h2⟩:=h;by_cases e:p.1=k
  .have e':q.1=k:=h1.symm.trans e;have b:valueAt (q::qs) k=some q.2:=by simp[valueAt,yS,e']
   rw[xw e,b];exact h2
  .have e':¬ q.1=k:=fun z=>e ?F5;have b:valueAt (q::qs) k=valueAt qs k:=by simp[valueAt,yS,e']
   rw[xc e,b];exact ih
theorem KV.any(r:?EB)(k:κ):(kvs.any fun kv=>?yU)=vs.any fun kv=>decide (kv.1=k):=by
 unfold KV at r
 induction r with
 |nil=>rfl
 |cons h t ih=>rw[JG,JG,ih,h.1]
theorem KV.repl(r:?EB)(k:κ)(ry:?Cb) :
  KV (kvs.map fun kv=>if kv.1=k then (kv.1,y) else kv) (vs.map fun kv=>if kv.1=k then (kv.1,u) else kv):=by
 unfold KV at r ⊢
 induction r with
 |nil=>exact .nil
 |@cons p q ps qs h t ih=>
  rw[yt,yt];refine .cons ?_ ih;obtain⟨h1,h2⟩:=h;by_cases e:p.1=k
  .rw[yf e,yf ?KZ];exact⟨h1,ry⟩
  .rw[ye e,ye (fun z=>e ?F5)];exact⟨h1,h2⟩
theorem KV.put(r:?EB)(k:κ)(ry:?Cb):KV (uF kvs k y) (stored vs k u):=by
 unfold uF stored;rw[r.any k];by_cases e:(vs.any fun kv=>?yU)=true
 .rw[yf e,yf e];exact r.repl k ry
 .rw[ye e,ye e];exact Paired.snoc r ⟨rfl,ry⟩
theorem KV.keys {kvs:?yY}{vs:List (κ×Value)}(r:?EB):kvs.map ?C=vs.map ?C:=by
 unfold KV at r
 induction r with
 |nil=>rfl
 |cons h t ih=>rw[yt,yt,ih,h.1]
theorem KV.length(r:?EB):kvs.length=vs.length:=Paired.length r
end
abbrev KT (H:Hp):List (List Key×V)->List (List Key×Addr×Value)->Prop:=Paired fun p q=>p.1=q.1/\H q.2.1=some (.tup (p.1.map kV))/\YV p.2 q.2.2
theorem KT.val {kvs:?xP}{xs:List (List Key×Addr×Value)}(r:?IU)(k:?Aj):V8 (xJ kvs k) ((?Ia).map ?zC):=by
 induction r with
 |nil=>exact ?DT
 |@cons p q ps qs h t ih=>
  obtain⟨h1,_,h2⟩:=h;by_cases e:p.1=k
  .have e':q.1=k:=h1.symm.trans e;have b:atKey (q::qs) k=some q.2:=by simp[atKey,yS,e']
   rw[xw e,b];exact h2
  .have e':¬ q.1=k:=fun z=>e ?F5;have b:atKey (q::qs) k=atKey qs k:=by simp[atKey,yS,e']
   rw[xc e,b];exact ih
theorem KT.repl(r:?IU)(k:?Aj)(ry:?Cb) :
  KT H (kvs.map fun kv=>if kv.1=k then (kv.1,y) else kv) (xs.map (putAt k u)):=by
 induction r with
 |nil=>exact .nil
 |@cons p q ps qs h t ih=>
  rw[yt,yt];refine .cons ?_ ih;obtain⟨h1,h2,h3⟩:=h;unfold putAt;by_cases e:p.1=k
  .rw[yf e,yf ?KZ];exact⟨h1,h2,ry⟩
  .rw[ye e,ye (fun z=>e ?F5)];exact⟨h1,h2,h3⟩
theorem KT.put(r:?IU)(k:?Aj)(hb:H b=some ?Ho)(ry:?Cb) :
  KT H (uF kvs k y) (storedH xs k b u):=by
 have e:(kvs.any fun kv=>?yU)=(atKey xs k).isSome:=by
  rw[dQ,(r.val k).isSome_eq,Option.isSome_map]
 unfold uF storedH;rw[e];by_cases q:(?Ia).isSome=true
 .rw[yf q,yf q];exact r.repl k ry
 .rw[ye q,ye q];exact Paired.snoc r ⟨rfl,hb,ry⟩
theorem KT.keeps(r:?IU)(ht:∀ b ys,H b=some (.tup ys)->H' b=some (.tup ys)):KT H' kvs xs:=
 Paired.mapP r fun _ _ z=>⟨z.1,ht _ _ z.2.1,z.2.2⟩
section
theorem Ei(ok:?B4)(e:Rd H a u):qQ P w H h a u:=e.ok ok
theorem XI(ok:?B4)(e:Rd H a ?Bu):kvs.length<=sizeLine/\?zQ=false/\∃ vs,KV kvs vs/\h.DictOf ?Bf a vs:=
 show qQ P w H h a ?Bu from Ei ok e
theorem HN(ok:?B4)(e:H a=some ?Bu):kvs.length<=sizeLine/\?zQ=false/\∃ vs,KV kvs vs/\h.DictOf ?Bf a vs:=XI ok (.inl e)
theorem Wz(ok:?B4)(e:H a=some (.tup ?Ic)):(?Fn).is h ks a:=by
 obtain⟨_,its,r,o,h1,h2,n,h3⟩:=(show qQ P w H h a (.tup ?Ic) from ok a _ e)
 exact⟨o,its.toArray,n,h1,h2,h3,by simpa using Ul r⟩
theorem am(ok:?B4)(e:Rd H a ?CS):kvs.length<=sizeLine/\?zQ=false/\
  ∃ xs,KT H kvs xs/\h.DictOfH ?Fn a xs:=by
 obtain⟨z,y,xs,r,o,es,ep,h1,h2,h3,h4,h5⟩:=(show qQ P w H h a ?CS from Ei ok e)
 refine⟨z,y,xs,r,o,es,ep,h1,h2,h3,h4,fun x hx=>?_,h5⟩;have all:∀ {l:List (List Key×V)} {m:List (List Key×Addr×Value)},KT H l m->∀ x∈m,(?Fn).is h x.1 x.2.1:=by
  intro l m q
  induction q with
  |nil=>intro x hx;exact nomatch hx
  |@cons p q ps qs hq t ih=>
   intro x hx;rcases yG.mp hx with e|hx
   .subst e;exact Wz ok (by rw[←hq.1];exact hq.2.1)
   .exact ih x hx
 exact all r x hx
theorem HC(ok:?B4)(e:H a=some ?CS):kvs.length<=sizeLine/\?zQ=false/\
  ∃ xs,KT H kvs xs/\h.DictOfH ?Fn a xs:=am ok (.inl e)
end
def iI (H:Hp)(a:Addr)(y:V)(r:?Iw):Prop:=
 (∃ kvs k,Rd H a ?Bu/\y=kV k/\r=xJ kvs k)∨∃ kvs k b,Rd H a ?CS/\y=.ref b/\H b=some ?Ho/\r=xJ kvs k
def eM (H:Hp)(a:Addr)(y v:V)(H':Hp):Prop:=
 (∃ kvs k,H a=some ?Bu/\y=kV k/\kvs.length<sizeLine/\H'=upd H a (.dK ?GM)) ∨
 ∃ kvs k b,H a=some ?CS/\y=.ref b/\H b=some ?Ho/\kvs.length<sizeLine/\H'=upd H a (.dT ?GM)
theorem eM.k {kvs:?vO}{k:Key}{v:V}(e:H a=some ?Bu)(hl:kvs.length<sizeLine):eM H a (kV k) v (upd H a (.dK ?GM)):=.inl ⟨kvs,k,e,rfl,hl,rfl⟩
theorem eM.t {kvs:?xP}{k:?Aj}{v:V}(e:H a=some ?CS)(eb:H b=some ?Ho)(hl:kvs.length<sizeLine) :
  eM H a ?Be v (upd H a (.dT ?GM)):=.inr ⟨kvs,k,b,e,rfl,eb,hl,rfl⟩
section
theorem Inv.big (I:?A8):sysModules<s.heap.objs.size:=by
 have h:mainGlobals<s.heap.objs.size:=(?HJ).lt;exact ?PI
theorem oH(hu:?wA)(I:?A8)(g:iI H a y ?CY)(ry:?Cb)(h:∀ w' s',Inv X pins σ H s'->YV v w'->Q w' s') :
  wpAny ?AD A (getItem ?AB u) Q E s:=by
 rcases g with ⟨kvs,k,e,ey,l⟩|⟨kvs,k,b,e,ey,eb,l⟩
 .subst ey;obtain⟨z,hd,vs,rel,dd⟩:=XI I.hok e;obtain⟨w',hw,rw'⟩:=V8.some_of (v:=v) (o:=valueAt vs k) (by rw[l];exact ?Gc);exact wpAny_getItem_of (Wn ry) dd.mapOf hw (h w' _ ?Ax rw')
 .subst ey;cases ?kW;obtain⟨z,hd,xs,rel,dd⟩:=am I.hok e;obtain⟨w',hw,rw'⟩:=V8.some_of (v:=v) (o:=(?Ia).map ?zC) (by rw[l];exact ?Gc);obtain⟨p,hp,hp2⟩:=Yk.mp hw;refine wpAny_getItem_heap ?HH ?IW dd hp ?_;rw[hp2];exact h w' _ ?Ax rw'
theorem Iz {Q:?M}(hu:?wA)(I:?A8)(g:?Lx)(ry:?Cb)(h:∀ s',Inv X pins σ H s'->Q (.bool o.isSome) s') :
  wpAny ?AD A (compareOp .In u ?AB) Q E s:=by
 rcases g with ⟨kvs,k,e,ey,l⟩|⟨kvs,k,b,e,ey,eb,l⟩
 .subst ey;obtain⟨z,hd,vs,rel,dd⟩:=XI I.hok e;refine wpAny_in_of (Wn ry) hd dd.mapOf ?_;rw[←(rel.val k).isSome_eq,←l];exact h _ ?Ax
 .subst ey;cases ?kW;obtain⟨z,hd,xs,rel,dd⟩:=am I.hok e;refine wpAny_in_heap ?HH ?IW hd dd ?_;have q:=(?Gc).isSome_eq;rw[Option.isSome_map] at q;rw[←q,←l];exact h _ ?Ax
theorem mT(I:?A8)(mu:Mut (H a))(hs:Heap.SameBut a s.heap h')(he:∃ q,h'.get? a=some q)(new:qQ X.prog X.w (upd H a ob) h' a ob) :
  Inv X pins σ (upd H a ob) {s with heap:=h',toks:=t'}:=
 I.write (x:=a) (e:=a) mu ?A3 (fun b q hb z=>(hs.2 b hb).trans z) he new
theorem Gj(z:kvs.length<=sizeLine)(hd:?zQ=false)(rel:?EB)(dd:h'.DictOf ?Bf a vs) :
  qQ P w H' h' a ?Bu:=⟨z,hd,vs,rel,dd⟩
theorem pj(hu:?wA)(I:?A8)(g:eM H a y v H')(ry:?Cb)(rv:YV v r)(h:∀ s',Inv X pins σ H' s'->Q () s') :
  wpAny ?AD A (setItem ?AB u r) Q E s:=by
 rcases g with ⟨kvs,k,e,ey,l,eH⟩|⟨kvs,k,b,e,ey,eb,l,eH⟩
 .subst ey eH;obtain⟨z,hd,vs,rel,dd⟩:=HN I.hok e;have hz:vs.length<=sizeLine:=by rw[←rel.length];exact z
  have hl:(uF kvs k v).length<=sizeLine:=by have:=U3 kvs k v;lia
  refine wpAny_setItem_pairs (hsz:=hz) (Wn ry) dd fun h' dd' hs=>h _ ?_;have he:∃ q,h'.get? a=some q:=let ⟨q,_,_,hq,_⟩:=dd';⟨q,hq⟩
  exact mT I (by rw[e];exact ?DT) hs he (Gj hl hd (rel.put k rv) dd')
 .subst ey eH;cases ?kW;obtain⟨z,hd,xs,rel,dd⟩:=HC I.hok e;have hz:xs.length<=sizeLine:=by rw[←Paired.length rel];exact z
  have hl:(uF kvs k v).length<=sizeLine:=by have:=U3 kvs k v;lia
  refine wpAny_setItem_heap (hsz:=hz) ?HH ?IW dd fun h' dd' hs=>h _ ?_;obtain⟨q,es,ep,hq,h2,h3,h4,_,h5⟩:=dd';refine mT I (by rw[e];exact ?DT) hs ⟨q,hq⟩ ⟨hl,hd,_,(rel.put k eb rv).keeps fun c ys ec=>?_,q,es,ep,hq,h2,h3,h4,h5⟩;rw[yR (Hl ec e ?zH)];exact ec
end
section
end
def CS (i:Expr):Prop:=∀ ov iv,subscripted i false ov iv=operate [ov,iv] (getItem ov iv)
theorem lJ {A:?Ad}{E:?M}{env:Env}{T id:?Bv}{Q:?M}
  (hl:typeLookup (.type T) "__getitem__" = pure (some ?Co)) (hs:CS slice)
  (h:wpAny ?AG A (eval value env) (fun o s₁=>wpAny ?AG A (eval slice env) (fun i s₂=>s₂.TypeIs o T/\wpAny ?AG A (getItem o i) Q E s₂) E s₁) E s) :
  wpAny ?AG A (eval (.Subscript value slice pos) env) Q E s:=by
 refine Subscript_ (qa h (fun o s₁ h₁=>qa h₁ (fun i s₂ h₂=>?_) fun _ _ x=>x) fun _ _ x=>x);obtain⟨hT,h₂⟩:=h₂;unfold subscriptTail;refine ya ?_;rw[getitemInPython_of_ne hT.not_modules];refine ya (wpAny_specialOf hT hl ?_);have fin:wpAny (model prog w) A (subscripted slice false o i) (fun r s₃=>wpAny ?AG A (letTemporaryGo value o r >>= fun _=>pure r) Q E s₃) E s₂:=by
  rw[hs o i];exact wpAny_operating (qa h₂ (fun r s₃ h₃=>ya (wpAny_letTemporaryGo (yj h₃))) fun _ _ x=>x)
 first
  |exact yj (ya fin)
  |exact ya (yj (ya fin))
  |exact ya fin
theorem fu(I:?A8)(g:?Lx):s.TypeIs ?AB "dict" :=by
 rcases g with ⟨kvs,k,e,_,_⟩|⟨kvs,k,b,e,_,_,_⟩
 .obtain⟨_,_,vs,_,dd⟩:=XI I.hok e;exact ?Ig
 .obtain⟨_,_,xs,_,dd⟩:=am I.hok e;exact ?Ig
def G1 (td ty:TE):TE:=fun σ H Q=>td σ H fun x H1=>ty σ H1 fun y H2=>∃ a v,x=.ref a/\iI H2 a y ?CY/\Q v H2
def He (td ty tv:TE):TS:=fun D σ H=>tv σ H fun v H1=>td σ H1 fun x H2=>ty σ H2 fun y H3=>∃ a H4,x=.ref a/\eM H3 a y v H4/\D.nx σ H4
section
theorem C7 (hu:?xT)(ho:PE X o td)(hi:PE X i ty)(hs:CS i):PE X ?Fr (G1 td ty):=by
 intro pins s σ H Q I h;refine lJ PySem.F.slot_dict_getitem.lookup hs (thn ?HK fun u s1 ⟨x,H1,I1,rx,q1⟩=>thn ?Nt fun iv s2 ⟨y,H2,I2,ry,a,v,ex,g,q2⟩=>?_);subst ex;obtain rfl:u=Value.ref a:=rx;exact⟨fu I2 g,oH hu I2 g ry fun w' s3 I3 rw'=>⟨v,H2,I3,rw',q2⟩⟩
theorem lV (hu:?xT)(ho:PE X o td)(hi:PE X i ty)(hv:PE X value tv)(hs:swapsWith value (some (.Subscript o i pos')) pos.line X.env=pure false) :
  PS X (.Assign [.Subscript o i pos'] value pos) (He td ty tv):=by
 intro pins s σ H D I h;refine wpAny_Assign_Subscript (thn ?OQ fun r s1 ⟨v,H1,I1,rv,q1⟩=>thn (ho pins s1 σ H1 _ I1 q1) fun u s2 ⟨x,H2,I2,rx,q2⟩=>thn (hi pins s2 σ H2 _ I2 q2) fun iv s3 ⟨y,H3,I3,ry,a,H4,ex,g,q3⟩=>?_) hs;subst ex;obtain rfl:u=Value.ref a:=rx;exact pj hu I3 g ry rv fun s4 I4=>⟨σ,H4,I4,q3⟩
end
theorem sX(h:Heap)(hb:sysModules<h.objs.size):qQ P w H (h.push {cls:=?qX, data:=.dict #[]}) h.objs.size (.dK []):=
 ⟨YC _,?Mi,[],.nil,Heap.DictOf.new h⟩
theorem tq(h:Heap)(hb:sysModules<h.objs.size):qQ P w H (h.push {cls:=?qX, data:=.dict #[]}) h.objs.size (.dT []):=
 ⟨YC _,?Mi,[],.nil,_,#[],0,?CT,⟨rfl,rfl,rfl⟩,rfl,rfl,Qa⟩
def EX:TE:=fun _ H Q=>∀ p,H p=none->Q ?Bw (upd H p (.dK []))
def GB:TE:=fun _ H Q=>∀ p,H p=none->Q ?Bw (upd H p (.dT []))
section
theorem tE:PE X (.Dict [] [] pos) EX:=fun pins s σ H Q I h=>
 wpAny_Dict_empty ⟨.ref s.heap.objs.size,_,I.laid (a:=?DK) (o:=.dK []) (t':=?Ac) (fun _ _ q=>?CV) ?AH (sX s.heap I.big),rfl,h _ ?C9⟩
theorem rV:PE X (.Dict [] [] pos) GB:=fun pins s σ H Q I h=>
 wpAny_Dict_empty ⟨.ref s.heap.objs.size,_,I.laid (a:=?DK) (o:=.dT []) (t':=?Ac) (fun _ _ q=>?CV) ?AH (tq s.heap I.big),rfl,h _ ?C9⟩
end
structure M2 (X:Cx)(o:Expr)(m:Str)(apos:Pos)(e f:Expr)(cpos:Pos):Prop where
 base:attributeBase o m X.env (eval o X.env)=eval o X.env
 few:((backTo cpos (starEach [e,f] X.env)).all (fun x=>!x.1)&&(backToKw cpos (keywordEach [] X.env)).all (fun x=>x.1.isSome)
  && decide (([e,f]:?AW).length+([]:?IG).length+(if ([]:?IG).isEmpty then 0 else 1)<30))=true
 line:(apos.endLine==cpos.line)=true
 trees:backTo cpos (starEach [e,f] X.env)=[(?AN,?Cj),(?AN,eval f X.env)]
def IsD (H:Hp)(a:Addr):Prop:=(∃ kvs,Rd H a ?Bu)∨∃ kvs,Rd H a ?CS
theorem FZ(I:?A8)(d:IsD H a) :
  s.TypeIs ?AB "dict" /\ (∀ b,Value.ref a=.ref b->∃ ob,s.heap.get? b=some ob/\ob.dict=none)/\?zQ=false:=by
 rcases d with ⟨kvs,e⟩|⟨kvs,e⟩
 .obtain⟨_,hd,vs,_,dd⟩:=XI I.hok e;refine⟨?Ig,fun b q=>?_,hd⟩;cases q;obtain⟨ob,_,_,h1,h2,_⟩:=dd;exact⟨ob,h1,h2.2.1⟩
 .obtain⟨_,hd,xs,_,dd⟩:=am I.hok e;refine⟨?Ig,fun b q=>?_,hd⟩;cases q;obtain⟨ob,_,_,h1,h2,_⟩:=dd;exact⟨ob,h1,h2.2.1⟩
section
theorem Fz(hu:?wA)(I:?A8)(g:?Lx)(ry:?Cb)(rd:YV d r)(h:∀ w' s',Inv X pins σ H s'->YV (o.getD d) w'->Q w' s') :
  wpAny ?AD A (call (.builtin "dict.get") [.ref a,u,r]) Q E s:=by
 rcases g with ⟨kvs,k,e,ey,l⟩|⟨kvs,k,b,e,ey,eb,l⟩
 .subst ey;obtain⟨z,hd,vs,rel,dd⟩:=XI I.hok e;refine call_meetsIn PySem.F.slot_dict_get dd.typeIs PySem.F.entry_dict_get ?JL (meets_dict_get_default ?LA a (Wn ry) hd r) ⟨_,dd.mapOf,h _ _ ?Ax ?_⟩;rw[l];exact(?Gc).getD rd
 .subst ey;cases ?kW;obtain⟨z,hd,xs,rel,dd⟩:=am I.hok e;refine call_meetsIn PySem.F.slot_dict_get dd.typeIs PySem.F.entry_dict_get ?JL (meetsH_dict_get_default (tupleKind ?LA) a b hd r) ⟨?HH,k,xs,?IW,dd,h _ _ ?Ax ?_⟩;rw[l];exact(?Gc).getD rd
end
def Fb (td ty tx:TE):TE:=fun σ H Q=>td σ H fun x H1=>∃ a,x=.ref a/\IsD H1 a/\ty σ H1 fun y H2=>tx σ H2 fun z H3=>∃ o,iI H3 a y o/\Q (o.getD z) H3
section
theorem fA (hu:?xT)(ho:PE X o td)(he:PE X e ty)(hf:PE X f tx)(m:M2 X o "get" apos e f cpos):PE X ?tT (Fb td ty tx):=by
 intro pins s σ H Q I h;refine wpAny_Call_method m.base m.few m.line PySem.F.plainAttrs_dict PySem.F.slot_dict_get PySem.F.type_dict_get (thn ?HK fun u s1 ⟨x,H1,I1,rx,a,ex,d,q1⟩=>?_);subst ex;obtain rfl:u=Value.ref a:=rx;obtain⟨t1,t2,_⟩:=FZ I1 d;refine⟨t1,t2,?_⟩;rw[m.trees];refine Calls.callWith_builtin rfl (Calls.evalArgs_plain (Calls.spliced_cons (thn (he pins s1 σ H1 _ I1 q1) fun iv s2 ⟨y,H2,I2,ry,q2⟩=>
  Calls.spliced_cons (thn (hf pins s2 σ H2 _ I2 q2) fun fv s3 ⟨z,H3,I3,rz,ov,g,q3⟩=>?Js))))
 exact Fz hu I3 g ry rz fun w' s4 I4 rw'=>⟨_,H3,I4,rw',q3⟩
end
section
end
section
end
section
def D2:HO->Bool
 |.dK _=>true
 |.dT _=>true
 |_=>false
theorem HOk.known(ok:?B4)(e:H a=some u)(d:D2 u=true)(ho:h.get? a=some o):HOk P w ?G3 h:=fun b v q=>by
 have nown:∀ c y,H c=some (.own y)->c≠a:=fun c y r z=>by subst z;rw[e] at r;cases r;cases d
 have ntup:∀ c xs,H c=some ?BN->c≠a:=fun c xs r z=>by subst z;rw[e] at r;cases r;cases d
 have st:∀ {b:Addr} {v:HO},qQ P w H h b v->qQ P w ?G3 h b v:=fun {b v} x=>x.stay (fun _ _ _ z=>z) (fun c z=>?tJ) fun c xs z=>by rw[yR (ntup c _ z)];exact z
 by_cases hb:b=a
 .subst hb;rw[yX] at q;cases q;exact⟨ho,st (ok _ _ e)⟩
 .rw[yR hb] at q;exact ?L2
theorem Inv.known(I:?A8)(e:H a=some u)(d:D2 u=true)(ho:s.heap.get? a=some o):?Ow:=by
 have nn:∀ b,H b=none->upd H a ?BK b=none:=fun b z=>by
  rw[yR (fun y=>by subst y;rw[e] at z;cases z)];exact z
 refine⟨I.ok,I.os,?Cc,?xX,I.loc,?FV,?Ld,fun x c q=>?Jl,fun p hp=>?_,I.hok.known e d ho,I.len⟩
 .have z:=I.base.tups b xs q;rw[yR (fun y=>by subst y;rw[e] at z;cases z;cases d)];exact z
 .have z:=I.base.frzs b o' v q;rw[yR (fun y=>by subst y;rw[e] at z;cases z;cases d)];exact z
 .obtain⟨m,z⟩:=I.base.tbls b ps q;exact⟨m,by rw[yR (fun y=>by subst y;rw[e] at z;cases z;cases d)];exact z⟩
 .obtain⟨q1,q2,q3⟩:=I.pin p hp;exact ?Jt
end
def Itk (a:Addr)(o:Obj)(kvs:?vO):It:=
 ⟨fun i H=>H a=some ?Ee/\i<kvs.length,fun i H x H'=>H'=H/\∃ k v,kvs[i]?=some (k,v)/\x=kV k,fun i H=>H a=some ?Ee/\kvs.length<=i⟩
theorem HD(h:(?Bf).is k u=true):?Lh:=by
 cases k with
 |inl i=>obtain⟨t,e⟩:=Value.isInt_shape (k:=i) (v:=u) h;exact⟨t,e⟩
 |inr x=>obtain⟨t,e⟩:=Value.isStrOf_shape (x:=x) (v:=u) h;exact⟨t,e⟩
theorem iu(ok:?B4)(e:H a=some ?Ee)(hd:?jZ):∃ vs,KV kvs vs/\Heap.DictAt ?Bf h a vs ep/\?zQ=false:=by
 obtain⟨h1,z,y,vs,r,o',es',ep',q1,q2,q3,q4⟩:=(show qQ P w H h a ?Ee from ok a _ e)
 rw[h1] at q1;cases q1;rw[hd] at q3;cases q3;exact⟨vs,r,⟨o,es,h1,q2,hd,q4⟩,y⟩
theorem pc {P:?A6}{w:?A5}{K:?A1}{tg:Expr}{a it:Addr}{o:Obj}{kvs:?vO}{es:?Eh}{ep:Nat}(hd:?jZ):Turn P w K tg (Itk a o kvs) [it] it (fun i h=>h.IsKeyIter it a i kvs.length ep) where
 mem:=by simp
 obj:=fun i h st b hb=>by
  have e:b=it:=by simpa using hb
  subst e;obtain⟨o,e,c,d⟩:=st;exact⟨o,e,fun v z=>by rw[d] at z;cases z⟩
 keep:=fun i h h' st k=>st.at fun o e=>k it (by simp) o e
 item:=by
  intro X hP hw hK hc i pins s σ H E I hf st hg;subst hP hw hK;obtain⟨ha,hi⟩:=hg;obtain⟨f0,f1,f2,f3,f4,f5⟩:=hf it (by simp);obtain⟨vs,r,da,_⟩:=iu I.hok ha hd;have hl:=r.length;obtain⟨p,hp⟩:∃ p,vs[i]?=some p:=⟨_,yl ?A⟩
  obtain⟨q,hq⟩:∃ q,kvs[i]?=some q:=⟨_,yl hi⟩
  have ek:q.1=p.1:=by
   have:=congrArg (·[i]?) r.keys;simp only[yz,hp,hq,Option.map_some,Option.some.injEq] at this;exact this
  rw[hl] at st;refine wpAny_pyNext_dict_item st da (k:=p.1) (v:=p.2) hp fun key h' hk st' sb=>?_;have I1:Inv X pins σ H {s with heap:=h'}:=I.turned (t':=?Ac) ?jJ f0 f1 f3 f4 f5;refine⟨key,rfl,letGo_keyiter st' ⟨kV q.1,H,I1,?_,⟨rfl,q.1,q.2,hq,rfl⟩,?_,fun b hb=>?yG⟩⟩
  .rw[ek];exact HD hk
  .rw[hl];exact st'
 done:=by
  intro X hP hw hK hc i pins s σ H E I hf st hg;subst hP hw hK;obtain⟨ha,hi⟩:=hg;obtain⟨f0,f1,f2,f3,f4,f5⟩:=hf it (by simp);obtain⟨vs,r,da,_⟩:=iu I.hok ha hd;have hl:=r.length;rw[hl] at st;exact wpAny_pyNext_dict_end ?Bs st da (yE.mpr ?A) fun h' eb=>?qF
 self:=fun _ _ _ _ _ st h=>wpAny_pyIter_keyiter st h
def IT (tl:TE):TI:=fun σ H R=>tl σ H fun x H1=>∃ a o kvs,x=.ref a/\H1 a=some ?Ee/\R (Itk a o kvs) H1
theorem mH(hl:?Ij):PI X tg l (IT tl):=by
 intro pins s σ H R I h;refine thn ?HL fun v s1 ⟨x,H1,I1,r1,q1⟩=>?_;obtain⟨a,o,kvs,e,ha,q⟩:=q1;subst e;cases r1;obtain⟨h1,z,y,vs0,r0,o',es,ep,p1,p2,p3,p4⟩:=(show qQ X.prog X.w H1 s1.heap a ?Ee from I1.hok a _ ha)
 rw[h1] at p1;cases p1;obtain⟨vs,r,da,hy⟩:=iu I1.hok ha p3;refine wpAny_pyIter_dict hy da ?_;refine⟨?Ea,?jY,_,_,H1,rfl,I1.kept (t':=?Cy) fun b o e=>?At,pc (a:=a) (kvs:=kvs) p3,?_,fun b hb=>?_,q⟩
 .rw[r.length];exact ?Dh
 .have e:b=s1.heap.objs.size:=by simpa using hb
  subst e;exact ?Dg
end L2
namespace L3
open PySem PySem.Spec PySem.Calls PyProof.Rows L2
def KN:Key->D
 |.inl i=>.int i
 |.inr x=>.str x
def k2D:K2->D
 |.inl k=>KN k
 |.inr ks=>.tup ?FB
def kD (ks:?Az):D:=.tup (ks.map k2D)
theorem Uu {K:?A1}{F:Hp}{k:Key}{v:V}(h:Is K F (KN k) v):v=kV k:=by
 cases k with
 |inl i=>exact isI h
 |inr x=>exact isS h
theorem uX {K:?A1}{F:Hp}:∀ {ks:List Key} {xs:List V},IsL K F ?FB xs->xs=ks.map kV
 |[],_,h=>by simp only[ji,IsL] at h;subst h;rfl
 |k::ks,_,h=>by
  simp only[yt,IsL] at h;obtain⟨x,r,rfl,h1,h2⟩:=h;rw[Uu h1,uX h2];rfl
section
theorem HV (I:?A8)(h:Is X.K H (k2D k) x)(r:YV x u):KZ s.heap k u:=by
 cases k with
 |inl k=>
  rw[Uu h] at r;exact r
 |inr ks=>
  obtain⟨a,xs,rfl,s1,il⟩:=isT h;obtain⟨us,rv,t1,_⟩:=I.tuple s1;rw[uX il] at rv;exact⟨a,r,us,t1,rv⟩
theorem BH (I:?A8):∀ {ks:List K2} {xs:List V} {us:List Value},IsL X.K H (ks.map k2D) xs->qc xs us->Paired (KZ s.heap) ks us
 |[],_,_,h,r=>by
  simp only[ji,IsL] at h;subst h;cases r;exact .nil
 |k::ks,_,_,h,r=>by
  simp only[yt,IsL] at h;obtain⟨x,r',rfl,h1,h2⟩:=h;cases r with
  |cons a b=>exact .cons (HV I h1 a) (BH I h2 b)
theorem ub (I:?A8)(h:Is X.K H (kD ks) ?AB):?Kr:=by
 obtain⟨a',xs,e,s1,il⟩:=isT h;cases e;obtain⟨us,rv,t1,_⟩:=I.tuple s1;exact⟨us,t1,BH I il rv⟩
end
abbrev DP (K:?A1)(F:Hp):List (List K2×D)->List (List K2×Addr×Value)->Prop:=Paired fun p q=>p.1=q.1/\Is K F (kD q.1) (.ref q.2.1)/\∃ v,YV v q.2.2/\Is K F p.2 v
def atD (kvs:?zI)(k:?Az):Option D:=(kvs.find? fun p=>decide (p.1=k)).map ?zC
def wB (kvs:?zI)(k:?Az)(d:D):?zI:=if (atD kvs k).isSome=true then kvs.map fun p=>if p.1=k then (p.1,d) else p else kvs++[(k,d)]
theorem DP.mono {K:?A1}{F F':Hp}{kvs:?zI}{xs:?wX}(h:?LO)(e:?FO):DP K F' kvs xs:=Paired.mapP h fun p q ⟨h1,h2,v,r,i⟩=>⟨h1,h2.mono e,v,r,i.mono e⟩
theorem DP.at {K:?A1}{F:Hp}{k:?Az}:∀ {kvs:List (List K2×D)} {xs:List (List K2×Addr×Value)},DP K F kvs xs->(atKey xs k=none/\atD kvs k=none)∨∃ p d v,atKey xs k=some p/\atD kvs k=some d/\YV v p.2/\Is K F d v
 |_,_,.nil=>.inl ?DR
 |_,_,@Paired.cons _ _ _ p q ps qs ⟨h1,h2,v,r,i⟩ t=>by
  by_cases e:p.1=k
  .have e':q.1=k:=h1.symm.trans e;exact .inr ⟨q.2,p.2,v,by simp[atKey,yS,e'],by simp[atD,yS,e],r,i⟩
  .have e':¬ q.1=k:=fun z=>e ?F5;have ih:=DP.at (k:=k) t
   rwa [show atKey qs k=atKey (q::qs) k by simp[atKey,yS,e'],show atD ps k=atD (p::ps) k by simp[atD,yS,e]] at ih
theorem DP.some_eq {K:?A1}{F:Hp}{k:?Az}{kvs:?zI}{xs:?wX}(h:?LO):(?Ia).isSome=(atD kvs k).isSome:=by
 rcases h.at (k:=k) with ⟨e1,e2⟩|⟨p,d,v,e1,e2,_⟩
 .rw[e1,e2];rfl
 .rw[e1,e2];rfl
theorem DP.put {K:?A1}{F:Hp}{k:?Az}{kvs:?zI}{xs:?wX}{a:Addr}{d:D}{v:V}{u:?AK}(h:?LO)(hk:Is K F (kD k) ?AB)(r:?EO)(i:?GO):DP K F (wB kvs k d) (storedH xs k a u):=by
 unfold wB storedH;rw[h.some_eq];split
 .have go:∀ {ps:List (List K2×D)} {qs:List (List K2×Addr×Value)},DP K F ps qs->DP K F (ps.map fun p=>if p.1=k then (p.1,d) else p) (qs.map (putAt k u)):=by
   intro ps qs t
   induction t with
   |nil=>exact .nil
   |@cons p q ps qs hh t ih=>
    obtain⟨h1,h2,v',r',i'⟩:=hh;rw[yt,yt];refine .cons ?_ ih;unfold putAt;by_cases e:p.1=k
    .rw[yf e,yf ?KZ];exact⟨h1,h2,v,r,i⟩
    .rw[ye e,ye fun z=>e ?F5];exact⟨h1,h2,v',r',i'⟩
  exact go h
 .exact Paired.snoc h ⟨rfl,hk,v,r,i⟩
def Jz (P:?A6)(w:?A5)(K:?A1)(a:Addr)(kvs:?zI):Ow:=fun F o=>∃ xs,o=Z0 P w a xs/\DP K F kvs xs
theorem xV {P:?A6}{w:?A5}{K:?A1}{a:Addr}{kvs:?zI}{L:Bool}:∀ F o,Jz P w K a kvs F o->ZI L o=true:=fun F o ⟨xs,e,_⟩=>by subst e;rfl
section
theorem Wk (I:?A8)(e:H l=some ?Dk)(h:DP X.K H kvs xs):(l==sysModules)=false/\s.heap.DictOfH ?GA l xs:=by
 obtain⟨⟨h0,o,es,ep,h1,h2,h3,h4,h5⟩,_⟩:=(show qQ X.prog X.w H s.heap l ?Dk from I.hok l _ e)
 refine⟨h0,o,es,ep,h1,h2,h3,h4,fun x hx=>?_,h5⟩;obtain⟨p,_,hp⟩:=VN h hx;exact ub I hp.2.1
end
def Gx (X:Cx)(neg:Bool):R2:=fun x y H Q=>∃ b l ks kvs xs,x=.ref b/\Is X.K H (kD ks) x/\y=.ref l/\H l=some ?Dk/\DP X.K H kvs xs/\Q (.bl (if neg then !(?E2).isSome else (?E2).isSome)) H
def HS (X:Cx):Cy:=fun o i v H Q=>∃ l b ks kvs xs d,o=.ref l/\i=.ref b/\Is X.K H (kD ks) i/\H l=some ?Dk/\DP X.K H kvs xs/\kvs.length<sizeLine/\Is X.K H d v/\∀ u,YV v u->Q (upd H l (Z0 X.prog X.w l (storedH xs ks b u)))
section
theorem Gd (hu:?O):OpR X ?L9 (Gx X false):=by
 rintro pins s σ H x y v u Q I rx ry ⟨b,l,ks,kvs,xs,rfl,hk,rfl,hl,dp,q⟩;cases rx;cases ry;obtain⟨h0,dd⟩:=Wk I hl dp;refine wpAny_in_heap ?kQ (ub I hk) h0 dd ?_;rw[dp.some_eq];exact ?O0
theorem pU (hu:?O):OpR X (compareOp .NotIn) (Gx X true):=by
 rintro pins s σ H x y v u Q I rx ry ⟨b,l,ks,kvs,xs,rfl,hk,rfl,hl,dp,q⟩;cases rx;cases ry;obtain⟨h0,dd⟩:=Wk I hl dp;refine wpAny_notIn_heap ?kQ (ub I hk) h0 dd ?_;rw[dp.some_eq];exact ?O0
theorem Dd (hu:?O):FG X (HS X):=by
 rintro pins s σ H o i v ov iv u Q I ro ri rv ⟨l,b,ks,kvs,xs,d,rfl,rfl,hk,hl,dp,hz,hd,q⟩;cases ro;cases ri;obtain⟨h0,dd⟩:=Wk I hl dp;have hx:xs.length<=sizeLine:=by rw[←Paired.length dp];lia
 refine wpAny_setItem_heap (hsz:=hx) ?kQ (ub I hk) dd fun h' dd' hs=>⟨_,?_,q u rv⟩
 obtain⟨o',es,ep,z1,z2,z3,z4,_,z5⟩:=dd';exact I.write (x:=l) (e:=l) (by rw[hl];exact ?DT) ?A3 (fun c q hb z=>(hs.2 c hb).trans z) ⟨o',z1⟩ (bz ⟨h0,o',es,ep,z1,z2,z3,z4,z5⟩)
theorem Ay:PE X (.Dict [] [] pos) (fun _ H Q=>∀ p,H p=none->Q (.ref p) (upd H p (Z0 X.prog X.w p []))):=fun pins s σ H Q I h=>
 wpAny_Dict_empty ⟨.ref s.heap.objs.size,_,I.laid (a:=?DK) (o:=Z0 X.prog X.w s.heap.objs.size []) (t':=?Ac) (fun _ _ q=>?CV) ?AH
  (bz ⟨beq_eq_false_iff_ne.mpr (Ne.symm (Ym (lb I))),_,#[],0,yO _ rfl,⟨rfl,rfl,rfl⟩,rfl,rfl,Qa⟩),rfl,h _ ?C9⟩
end
section
theorem bX (r:∀ l,R ?Ah ((l,Jz X.prog X.w X.K l [])::Ω)):?tH:=fun F σ H S pins s I=>
 Ay pins s σ H _ I fun l hl=>⟨?Ah,_,F,S.new ?K5 hl ?LR yX (fun F2 _=>⟨[],rfl,.nil⟩),?AE,ZD F,r l⟩
theorem mK {x y:V}(S:?HD)(i1:Is X.K F (kD ks) x)(i2:Is X.K F ?Ah y)(m:?zL∈Ω)
  (q:Q (.bl (if neg then !(?E2).isSome else (?E2).isSome)) H):Gx X neg x y H Q:=by
 cases isR i2;obtain⟨fa,o',ha,ho⟩:=S.own _ m;obtain⟨xs,rfl,dp⟩:=ho F ?AE;obtain⟨c,_,rfl,_⟩:=isT i1;exact⟨c,l,ks,kvs,xs,rfl,i1.mono S.fh,rfl,ha,dp.mono S.fh,q⟩
theorem EO (hu:?O)(h:V3 X B a Γ Ω fun d Ω1=>∃ ks,d=kD ks/\V3 X B b Γ Ω1 fun d' Ω2=>∃ l kvs,d'=.raw ?Bh/\?zL∈Ω2/\RT (?E2).isSome Ω2)
  (hm:behindInMarks .In b=false:=by first|exact UD _|with_unfolding_all rfl):VT3 X B (.Compare a [.In] [b] pos) Γ Ω RT:=fun F σ H S pins s I=>
 Wg (Gd hu) jl jl hm pins s σ H _ I ((?AP).mono fun x H1 ⟨d,Ω1,F1,S1,f1,i1,ks,e1,h1⟩=>(?Ba).mono fun y H2 ⟨d',Ω2,F2,S2,f2,i2,l,kvs,e2,m,q⟩=>by
  subst e1 e2;exact ?Mg)
theorem az (hu:?O)(h:V3 X B a Γ Ω fun d Ω1=>∃ ks,d=kD ks/\V3 X B b Γ Ω1 fun d' Ω2=>∃ l kvs,d'=.raw ?Bh/\?zL∈Ω2/\RT (!(?E2).isSome) Ω2)
  (hm:behindInMarks .NotIn b=false:=by first|exact UD _|with_unfolding_all rfl):VT3 X B (.Compare a [.NotIn] [b] pos) Γ Ω RT:=fun F σ H S pins s I=>
 Wg (pU hu) jl jl hm pins s σ H _ I ((?AP).mono fun x H1 ⟨d,Ω1,F1,S1,f1,i1,ks,e1,h1⟩=>(?Ba).mono fun y H2 ⟨d',Ω2,F2,S2,f2,i2,l,kvs,e2,m,q⟩=>by
  subst e1 e2;exact ?Mg)
theorem gf (hu:?O)(h:V3 X B e Γ Ω fun d Ω1=>V3 X B o Γ Ω1 fun dq Ω2=>∃ l,dq=.raw ?Bh/\V3 X B i Γ Ω2 fun di Ω3=>∃ ks kvs Ω4,di=kD ks/\Ω3.Perm (?zL::Ω4)/\kvs.length<sizeLine/\W3 X B rest Γ ((l,Jz X.prog X.w X.K l (wB kvs ks d))::Ω4) E)
  (hs:swapsWithSole [.Subscript o i tpos] e spos.line X.env=pure false:=by rfl) (hw:swappedStores [.Subscript o i tpos] e X.env=pure none:=by rfl) (h1:(assignEach [.Subscript o i tpos] X.env).map ?zC=[assign ?Fq X.env]:=by rfl)
  (ha:∀ v,assign ?Fq X.env v=(do
   let ov ←holding [v] (eval o X.env)
   let iv ←holding [v,ov] (eval i X.env)
   standAt tpos
   holding [v,ov,iv] ?KU
   release [v,ov,iv] []):=by intro _;rfl):?uG:=fun F σ H S pins s I=>
 qd (bJ jl (gh jl jl (Dd hu) ha) hs hw h1) Qg pins s σ H _ I ((?AP).mono fun v H1 ⟨d,Ω1,F1,S1,f1,i1,h1⟩=>(?Ba).mono fun y H2 ⟨dq,Ω2,F2,S2,f2,i2,l,e2,h2⟩=>(h2 F2 σ H2 S2).mono fun z H3 ⟨di,Ω3,F3,S3,f3,i3,ks,kvs,Ω4,e3,pm,hz,h3⟩=>by
  subst e2 e3;cases isR i2;have S4:=S3.perm pm.symm;obtain⟨fa,o',ha',ho⟩:=S4.own ?zL (by simp);obtain⟨xs,rfl,dp⟩:=ho F3 ?AE;obtain⟨c,_,rfl,_⟩:=isT i3;refine⟨l,c,ks,kvs,xs,d,rfl,rfl,i3.mono S3.fh,ha',dp.mono S3.fh,hz,(i1.mono (f2.trans f3)).mono S3.fh,fun u ru=>?_⟩;exact qF ?EZ (h3 F3 σ _ (S4.turn fun F5 e5=>⟨_,rfl,DP.put (dp.mono e5) (i3.mono e5) ru ?N4⟩)))
end
section
variable {X:Cx}{Γ:Ga}{a b c:Expr}{pos:Pos}{x y z:Str}
end
section
variable {P:?A6}{w:?A5}{K:?A1}{mg:?G}{base:Heap}{x q:Str}{st:Stmt}{N ps:?A0}{k n:Nat}{Cc:Addr}
end
end L3
namespace L2
open PySem PySem.Spec PySem.Calls PyProof.Rows
end L2
namespace L3
open PySem PySem.Spec PySem.Calls PyProof.Rows L2
section
variable {X:Cx}{B:Bs}{Γ:Ga}{Ω:Om}{E:E3}{rest:?Aw}{a b e:Expr}{es:?AW}{pos p:Pos}{ds gs:?A7}{x:Str}{k n:Nat}{R:?X}
def spR (K:?A1)(n:Nat)(C0:?zM)(C:?H):Sp:=fun vs H Q _=>∃ ds F,ds.length=n/\Yh F H/\IsL K F ds vs/\C0 ds/\∀ d,C ds d->∀ v H' F',Pur F H F' H'->Is K F' d v->Q v H'
theorem cZ(o:OkF X.prog X.w X.K X.mg X.base CX0 k x ps (spR X.K n C0 C))(hr:?Am)(hg:?Ai)(ha:?yT)(h0:C0 ds)(h:∀ d,C ds d->R d Ω)(hn:ds.length=n:=by rfl)(hdb:?L:=by decide)
  (he:?T:=by rfl) (hpl:?zA:=by rfl):?HU:=fun F σ H S pins s I=>
 wg o hr hg ha hdb he hpl pins s σ H _ I ⟨F,S.fh,S.sl,fun vs H' F' pu i=>by
  dsimp only;rw[yM];exact⟨ds,F',hn,pu.fh,i,h0,fun d hd v H2 F2 p2 i2=>⟨d,Ω,F2,S.pur ?IR,?Pe,i2,h d hd⟩⟩⟩
end
theorem Bd {P:?A6}{w:?A5}{K:?A1}{mg:?G}{base:Heap}{x:Str}{st:Stmt}{N ps:?A0}{k n:Nat}{C0:?zM}{C:?H}(d:?F7)(S:?BW)(hn:?yI)
  (body:∀ (f:Addr) (cdv:Value) (A:Around) (outer:List Env) (s:Shared) (H:Hp) (E:XK),Room k ?Fi->∀ (ds:List D),C0 ds->∀ B:Bs,B.M=[]->
   W3 ?H9 B ?Ae ?Bz [] ⟨fun _ _=>?AC,fun r _=>C ds r,fun _ _=>?AC,fun _ _=>?AC⟩):OkF P w K mg base CX0 (k+1) x ps (spR K n C0 C):=by
 refine d.ok S ?xO fun f cdv A outer s H vs Q E hr h=>?DU
 .obtain⟨ds,F,l,_,i,_⟩:=h;rw[i.len,l,hn]
 .obtain⟨ds,F,hl,fh,il,c0,q⟩:=h;refine Qs (D:=E3.to K ?zS F ⟨fun _ _=>?AC,fun r _=>C ds r,fun _ _=>?AC,fun _ _=>?AC⟩) (D':={nx:=fun _ H'=>?Aq,rt:=Q}) ?_ ?_ ?_ ?_ (body f cdv A outer s H E hr ds c0 ?zS rfl F _ H ?GK)
  .rintro σ' H' ⟨_,_,_,_,_,z⟩;exact ?AR
  .rintro v H' ⟨r,Ω',F',⟨σ',S'⟩,f',iv,hC⟩;exact q r hC v H' F' ?F9 iv
  .rintro σ' H' ⟨_,_,_,_,_,z⟩;exact ?AR
  .rintro σ' H' ⟨_,_,_,_,_,z⟩;exact ?AR
section
variable [DecidableEq κ]
def vA (ks:?Ak)(xs:?Ay)(k:κ):Option α:=((?Au).find? fun p=>decide (p.1=k)).map ?zC
def pK (ks:?Ak)(k:κ):?Ak:=if k∈ks then ks else ks++[k]
def pA (ks:?Ak)(xs:?Ay)(k:κ)(v:α):?Ay:=if k∈ks then (?Au).map fun p=>if p.1=k then v else p.2 else xs++[v]
theorem Wf {ks:?Ak}{xs:?AL}{k:κ}:xJ ?Au k=vA ks xs k:=rfl
theorem mZ:∀ {ks:List κ} {xs:List α},ks.length=xs.length->((?Au).any fun kv=>?yU)=decide (k∈ks)
 |[],_,_=>by simp
 |q::ks,[],h=>by simp at h
 |q::ks,x::xs,h=>by
  rw[Yb,JG,mZ (by simpa using h)];by_cases e:q=k
  .subst e;simp
  .have e':¬ k=q:=fun z=>e z.symm;simp[e,e']
theorem zip_map:∀ {ks:List κ} {xs:List α},ks.length=xs.length->(?Au).map (fun kv=>if kv.1=k then (kv.1,v) else kv)=ks.zip ((?Au).map fun p=>?xA)
 |[],_,_=>by simp
 |q::ks,[],h=>by simp at h
 |q::ks,x::xs,h=>by
  rw[Yb,yt,yt,Yb,zip_map (by simpa using h)];split <;> rfl
theorem UN:∀ {ks:List κ} {xs:List α},ks.length=xs.length->ks.zip xs++[(k,v)]=(ks++[k]).zip (xs++[v])
 |[],[],_=>rfl
 |[],_::_,h=>by simp at h
 |_::_,[],h=>by simp at h
 |q::ks,x::xs,h=>by rw[Yb,YQ,YQ,YQ,Yb,UN (by simpa using h)]
theorem fB {ks:?Ak}{xs:?AL}{k:κ}{v:V}(h:ks.length=xs.length):uF ?Au k v=(?DY).zip ?Ew:=by
 unfold uF pK pA;rw[mZ h];by_cases q:k∈ks
 .rw[yf (yL q),yf q,yf q,zip_map h]
 .rw[ye (by simpa using q),ye q,ye q,UN h]
theorem kj {ks:?Ak}{xs:?Ay}{k:κ}{v:α}(h:ks.length=xs.length):(?DY).length=(?Ew).length:=by
 unfold pK pA;split
 .rw[yd,Y3];lia
 .rw[yK,yK,h];rfl
theorem fg {K:?A1}{F:Hp}{k:κ}:∀ {ks:List κ} {ds:List D} {xs:List V},IsL K F ds xs->(vA ks ds k=none/\vA ks xs k=none)∨∃ d v,vA ks ds k=some d/\vA ks xs k=some v/\Is K F d v
 |[],_,_,_=>.inl ?DR
 |q::ks,[],_,h=>by
  simp only[IsL] at h;subst h;exact .inl ?DR
 |q::ks,d::ds,_,h=>by
  simp only[IsL] at h;obtain⟨x,r,rfl,h1,h2⟩:=h;unfold vA;rw[Yb,Yb,yS,yS];by_cases e:q=k
  .rw[yL e];exact .inr ⟨d,x,rfl,rfl,h1⟩
  .rw[yA e];exact fg (k:=k) (ks:=ks) h2
theorem rE {K:?A1}{F:Hp}{k:κ}{d:D}{v:V}(iv:?GO):∀ {ks:List κ} {ds:List D} {xs:List V},IsL K F ds xs->IsL K F ((ks.zip ds).map fun p=>if p.1=k then d else p.2) ((?Au).map fun p=>?xA)
 |[],_,_,_=>IsL.nil
 |q::ks,[],_,h=>by
  simp only[IsL] at h;subst h;exact ?CR
 |q::ks,e::ds,_,h=>by
  simp only[IsL] at h;obtain⟨x,r,rfl,h1,h2⟩:=h;rw[Yb,Yb,yt,yt];refine IsL.cons ?_ (rE iv h2);by_cases z:q=k
  .rw[yf z,yf z];exact iv
  .rw[ye z,ye z];exact h1
theorem Ek {K:?A1}{F:Hp}{ks:?Ak}{ds:?A7}{xs:?AL}{k:κ}{d:D}{v:V}(h:?Eu)(iv:?GO):IsL K F (pA ks ds k d) ?Ew:=by
 unfold pA;split
 .exact rE iv h
 .exact h.append ?K3
end
def oDk (K:?A1)(ks:?Aj)(ds:?A7):Ow:=fun F o=>∃ xs,o=.dK ?Au/\ks.length=xs.length/\IsL K F ds xs
def oDt (K:?A1)(ks:?EE)(ds:?A7):Ow:=fun F o=>∃ xs,o=.dT ?Au/\ks.length=xs.length/\IsL K F ds xs
theorem Cr {K:?A1}{F:Hp}{ks:?Aj}{ds:?A7}{v:V}(h:Is K F ?FH v):∃ a xs o,v=.ref a/\F a=some (.frz o (.dK ?Au))/\ks.length=xs.length/\IsL K F ds xs:=by simpa only[Is] using h
theorem Lc {K:?A1}{F:Hp}{ks:?EE}{ds:?A7}{v:V}(h:Is K F (.dt ks ds) v):∃ a xs,v=.ref a/\Rd F a (.dT ?Au)/\ks.length=xs.length/\IsL K F ds xs:=by simpa only[Is] using h
def kT (k:?Aj):?A7:=k.map KN
section
variable {X:Cx}{B:Bs}{Γ:Ga}{Ω:Om}{E:E3}{rest:?Aw}{a b o e f i tg:Expr}{es:?AW}{d d':D}{ds:?A7}{ks:?Aj}{kt:?Ka}{pos apos cpos:Pos}{R:?X}
theorem Us (hu:?O):?xT:=by lia
theorem wd {k:Key}(hu:?O)(ho:P3 X Γ o ?FH)(hi:P3 X Γ i (KN k))(hv:vA ks ds k=some d)(hs:CS i:=by exact ?yV):P3 X Γ ?Fr d:=
 PE.of (C7 (Us hu) ho hi hs) fun σ H Q ⟨F,fh,sl,q⟩=>⟨F,fh,sl,fun x H1 F1 p1 i1=>⟨F1,?Bj,?DH,fun y H2 F2 p2 i2=>by
  obtain⟨l,xs,ob,rfl,hl,hz,il⟩:=Cr ?Hx;rw[Uu i2];rcases fg (k:=k) (ks:=ks) il with ⟨z,_⟩|⟨d1,v,z1,z2,z3⟩
  .rw[z] at hv;cases hv
  .rw[hv] at z1;cases z1;exact⟨l,v,rfl,.inl ⟨_,k,.inr ⟨ob,p2.fh _ _ hl⟩,rfl,by rw[Wf,z2]⟩,q v H2 F2 ?CK z3⟩⟩⟩
theorem im {k:?Aj}{x1}{tpos:Pos}(hu:?O)(ho:P3 X Γ o (.dt kt ds))(he:?PC)(hf:P3 X Γ f d')(hz:(kT k).length<=sizeLine:=by first|exact Nat.le_of_ble_eq_true rfl|(simp only[kT,yd,yw,qb];decide))(m:M2 X o "get" apos ?KE f cpos:=by exact ?HE):P3 X Γ (.Call (.Attribute o "get" apos) [.Tuple es x1 tpos,f] [] cpos) ((vA kt ds k).getD d'):=
 PE.of (fA (Us hu) ho (bg he) hf m) fun σ H Q ⟨F,fh,sl,q⟩=>⟨F,fh,sl,fun x H1 F1 p1 i1=>by
  obtain⟨l,xs,rfl,hl,hz',il⟩:=Lc i1;have hl1:Rd H1 l (.dT (kt.zip xs)):=ZR p1.fh hl;refine⟨l,rfl,.inr ⟨_,hl1⟩,F1,?Bj,?DH,fun ys H2 F2 p2 i2=>⟨by rw[i2.len];exact hz,fun t ht=>?_⟩⟩;have pt:=p2.trans (Pur.lay (o:=.tup ys) p2.fh ht);refine⟨_,(Pur.lay p2.fh ht).fh,sl.mono (p1.ff.trans pt.ff),fun u H3 F3 p3 i3=>?_⟩;have et:H3 t=some (.tup (k.map kV)):=by
   have:=uX (ks:=k) i2;rw[←this];exact p3.hh _ _ yX
  refine⟨_,.inr ⟨_,k,t,ZR p3.hh (ZR pt.hh hl1),rfl,et,rfl⟩,q _ H3 F3 ((p1.trans pt).trans p3) ?_⟩;rw[Wf];rcases fg (k:=k) (ks:=kt) (il.mono (pt.ff.trans p3.ff)) with ⟨z1,z2⟩|⟨d1,v,z1,z2,z3⟩
  .rw[z1,z2];exact i3
  .rw[z1,z2];exact z3⟩
theorem bw (h:P3 X Γ a ?FH):I3 X Γ tg a ?FB:=PI.of (mH h) fun σ H Q ⟨F,fh,sl,q⟩=>⟨F,fh,sl,fun v H' F' p i=>by
 obtain⟨l,xs,ob,rfl,hl,hz,il⟩:=Cr i;refine⟨l,ob,_,rfl,p.fh _ _ hl,q _ H' F' p fun n F2 H2 e1 e2=>⟨fun d w=>?_,fun w=>⟨?HR,by rw[Y3];rw[yd] at w;lia⟩⟩⟩;rw[yz] at w;obtain⟨k,hk,rfl⟩:=Yk.mp w;have hn:n<ks.length:=(yi.mp hk).1;refine⟨⟨?HR,?vM⟩,fun x H3 ⟨z,k',v',hkv,ex⟩=>?_⟩;subst z ex;have:k'=k:=by
  rw[qG] at hkv;rw[hk] at hkv;exact(Option.some.inj hkv.1).symm
 subst this;refine ?JU;cases k' with
 |inl j=>exact JH F2
 |inr y=>exact X7 F2⟩
theorem cH (r:∀ l,R ?Ah ((l,oDk X.K [] [])::Ω)):?tH:=fun F σ H S pins s I=>
 tE pins s σ H _ I fun l hl=>⟨?Ah,_,F,S.new ?K5 hl ?LR yX (fun F2 _=>⟨[],rfl,rfl,?CR⟩),?AE,ZD F,r l⟩
theorem hV (r:∀ l,R ?Ah ((l,oDt X.K [] [])::Ω)):?tH:=fun F σ H S pins s I=>
 rV pins s σ H _ I fun l hl=>⟨?Ah,_,F,S.new ?K5 hl ?LR yX (fun F2 _=>⟨[],rfl,rfl,?CR⟩),?AE,ZD F,r l⟩
theorem tI {k:Key}{l:Addr}(hu:?O)(ho:P3 X Γ o ?Ah)(hm:(l,?Dx)∈Ω)(he:P3 X Γ e (KN k))(hf:P3 X Γ f d')(r:R ((vA ks ds k).getD d') Ω)(m:M2 X o "get" apos e f cpos:=by exact ?HE):?PB:=fun F σ H S pins s I=>
 fA (Us hu) ho he hf m pins s σ H _ I ⟨F,S.fh,S.sl,fun x H1 F1 p1 i1=>by
  cases isR i1;have S1:=S.pur p1;obtain⟨fa,ob,ha,hob⟩:=S1.own _ hm;obtain⟨xs,rfl,hz,il⟩:=hob F1 ?AE;refine⟨l,rfl,.inl ⟨_,.inl ha⟩,F1,?Bj,S1.sl,fun y H2 F2 p2 i2=>⟨F2,p2.fh,S1.sl.mono p2.ff,fun u H3 F3 p3 i3=>?_⟩⟩;rw[Uu i2];have S3:=(?Gg).pur p3;refine⟨_,.inl ⟨_,k,.inl (p3.hh _ _ (p2.hh _ _ ha)),rfl,rfl⟩,_,Ω,F3,S3,p1.ff.trans ?KG,?_,r⟩;rw[Wf];rcases fg (k:=k) (ks:=ks) (il.mono (p2.ff.trans p3.ff)) with ⟨z1,z2⟩|⟨d1,v,z1,z2,z3⟩
  .rw[z1,z2];exact i3
  .rw[z1,z2];exact z3⟩
theorem cp {spos tpos:Pos}{l:Addr}{k:Key}(hu:?O)(ho:P3 X Γ o ?Ah)(hi:P3 X Γ i (KN k))
  (h:V3 X B e Γ Ω fun d Ω1=>∃ ks ds Ω4,Ω1.Perm ((l,?Dx)::Ω4)/\ks.length<sizeLine/\W3 X B rest Γ ((l,oDk X.K ?DY (pA ks ds k d))::Ω4) E)
  (hs:swapsWith e (some ?Fq) spos.line X.env=pure false:=by rfl):?uG:=fun F σ H S pins s I=>
 qd (lV (Us hu) ho hi jl hs) Qg pins s σ H _ I ((?AP).mono fun v H1 ⟨d,Ω1,F1,S1,f1,i1,ks,ds,Ω4,pm,hz,h1⟩=>⟨F1,S1.fh,S1.sl,fun x H2 F2 p2 i2=>⟨F2,p2.fh,S1.sl.mono p2.ff,fun y H3 F3 p3 i3=>by
  cases isR i2;rw[Uu i3];have S3:=((?Gg).pur p3).perm pm.symm;obtain⟨fa,ob,ha,hob⟩:=S3.own (l,?Dx) (by simp);obtain⟨xs,rfl,hl,il⟩:=hob F3 ?AE;refine⟨l,_,rfl,eM.k ha ?vM,qF (f1.trans ?KG) (h1 F3 σ _ ?_)⟩;rw[fB hl];exact S3.turn fun F5 e5=>⟨_,rfl,kj hl,Ek ?M2 (i1.mono (p2.ff.trans (p3.ff.trans e5)))⟩⟩⟩)
theorem gp {spos tpos kpos:Pos}{x1}{l:Addr}{k:?Aj}(hu:?O)(ho:V3 X B o Γ Ω fun dq Ω1=>dq=.raw ?Bh/\Ω1=Ω)(hi:?PC)
  (h:?Cl) {kt:?EE} {ds:?A7} {Ω4:Om} (pm:Ω.Perm ((l,?G9)::Ω4)) (hz:kt.length<sizeLine) (hw:W3 X B rest Γ ((l,oDt X.K (pK kt k) (pA kt ds k d))::Ω4) E) (hk:(kT k).length<=sizeLine:=by first|exact Nat.le_of_ble_eq_true rfl|(simp only[kT,yd,yw,qb];decide))
  (hs:swapsWith e (some (.Subscript o (.Tuple es x1 kpos) tpos)) spos.line X.env=pure false:=by rfl):W3 X B (.Assign [.Subscript o (.Tuple es x1 kpos) tpos] e spos::rest) Γ Ω E:=fun F σ H S pins s I=>
 qd (lV (Us hu) jl (bg hi) h hs) Qg pins s σ H _ I ⟨F,S.fh,S.sl,fun v H1 F1 p1 i1=>(ho F1 σ H1 (S.pur p1)).mono fun x H2 ⟨dq,Ω1,F2,S2,f2,i2,e2,e3⟩=>by
  subst e2 e3;cases isR i2;refine⟨F2,S2.fh,S2.sl,fun ys H3 F3 p3 i3=>⟨by rw[i3.len];exact hk,fun t ht=>?_⟩⟩;have pt:=p3.trans (Pur.lay (o:=.tup ys) p3.fh ht);have S3:=(S2.pur pt).perm pm.symm;obtain⟨fa,ob,ha,hob⟩:=S3.own (l,?G9) (by simp);obtain⟨xs,rfl,hl,il⟩:=hob _ ?AE;have et:upd H3 t (.tup ys) t=some (.tup (k.map kV)):=by
   rw[←uX (ks:=k) i3];exact yX
  refine⟨l,_,rfl,eM.t ha et ?vM,qF (p1.ff.trans (f2.trans pt.ff)) (hw _ σ _ ?_)⟩;rw[fB hl];exact S3.turn fun F5 e5=>⟨_,rfl,kj hl,Ek ?M2 (i1.mono (f2.trans (pt.ff.trans e5)))⟩⟩
theorem bG {i:Nat}(hΓ:Γ[i]?=some (some ?Ah))(h:W3 X B sts (Γ.set i (some ?FH)) Ω E):W3 X B sts Γ ((l,?Dx)::Ω) E:=fun F σ H S pins s I=>by
 obtain⟨v,e1,e2⟩:=S.sl i _ hΓ;cases isR e2;obtain⟨fa,o0,ha,ho⟩:=S.own (l,?Dx) (by simp);obtain⟨xs,rfl,hl,il⟩:=ho F ?AE;have nin:=(?Cu).1;obtain⟨ob,hob⟩:=(I.hok l _ ha).there;have w:Yh F (upd F l (.frz ob (.dK (ks.zip xs)))):=fun b u q=>by rw[yR (Yo q fa)];exact q
 refine qF w (h (upd F l (.frz ob (.dK ?Au))) σ (upd H l (.frz ob (.dK ?Au))) ⟨?IQ,fun b u q=>?_,fun b q=>?_,fun b u hb q=>?_,(?Cu).2,fun q hq=>?GU,fun q hq=>?_,fun j d q=>?_⟩) pins s (I.known ha rfl hob)
 .by_cases hb:b=l
  .subst hb;rw[yX] at q ⊢;exact q
  .rw[yR hb] at q ⊢;exact ?Ib
 .by_cases hb:b=l
  .subst hb;exact(S.od (b,?Dx) (by simp)).elim (fun z=>?GL) fun z=>.inr ?BY
  .rw[yR hb] at q;exact ?Gk
 .by_cases z:b=l
  .subst z;rcases S.od (b,?Dx) (by simp) with y|y
   .exact ?Lg
   .have y':B.H b=none:=y;rw[y'] at q;cases q
  .rw[yR z];exact S.kp b u hb q
 .obtain⟨h1,o',h2,h3⟩:=S.own q ?Bt;have ne:q.1≠l:=fun e=>nin ?Hb;exact⟨by rw[yR ne];exact h1,o',by rw[yR ne];exact h2,fun F2 e=>?PT⟩
 .by_cases hj:i=j
  .subst hj;rw[qN] at q;split at q
   .split at q
    .cases q;exact⟨_,e1,by simp only[Is];exact⟨l,xs,ob,rfl,yX,hl,il.mono w⟩⟩
    .cases q
   .contradiction
  .rw[qM hj] at q;obtain⟨u,h1,h2⟩:=S.sl j d q;exact ?K2
theorem FX {i:Nat}(hΓ:Γ[i]?=some (some ?Ah))(h:W3 X B sts (Γ.set i (some (.dt kt ds))) Ω E):W3 X B sts Γ ((l,?G9)::Ω) E:=fun F σ H S=>by
 obtain⟨v,e1,e2⟩:=S.sl i _ hΓ;cases isR e2;obtain⟨fa,o0,ha,ho⟩:=S.own (l,?G9) (by simp);obtain⟨xs,rfl,hl,il⟩:=ho F ?AE;have nin:=(?Cu).1;have w:Yh F (upd F l (.dT (kt.zip xs))):=fun b u q=>by rw[yR (Yo q fa)];exact q
 refine qF w (h (upd F l (.dT (kt.zip xs))) σ H ⟨?IQ,fun b u q=>?_,fun b q=>?_,S.kp,(?Cu).2,fun q hq=>?GU,fun q hq=>?_,fun j d q=>?_⟩)
 .by_cases hb:b=l
  .subst hb;rw[yX] at q;cases q;exact ha
  .rw[yR hb] at q;exact ?Ib
 .by_cases hb:b=l
  .subst hb;exact(S.od (b,?G9) (by simp)).elim (fun z=>?GL) fun z=>.inr ?BY
  .rw[yR hb] at q;exact ?Gk
 .obtain⟨h1,o',h2,h3⟩:=S.own q ?Bt;have ne:q.1≠l:=fun e=>nin ?Hb;exact ?uI
 .by_cases hj:i=j
  .subst hj;rw[qN] at q;split at q
   .split at q
    .cases q;exact⟨_,e1,by simp only[Is];exact⟨l,xs,rfl,?EK,hl,il.mono w⟩⟩
    .cases q
   .contradiction
  .rw[qM hj] at q;obtain⟨u,h1,h2⟩:=S.sl j d q;exact ?K2
end
theorem tD:∀ {ks:List Key} {xs:List V} {us:List Value},qc xs us->KV ?Au (ks.zip us)
 |[],_,_,_=>.nil
 |k::ks,_,_,.nil=>.nil
 |k::ks,_,_,.cons r t=>by
  rw[Yb,Yb];exact .cons ⟨rfl,r⟩ (tD t)
section
theorem pC (hc:?Z)(hm:X.mg "dict" = none)(hg:Gl X "dict")(hm2:X.mg "zip" = none)(hg2:Gl X "zip")(ha:P3 X Γ a (.lst ?FB))(hb:P3 X Γ b ?BP)(hn:ks.Nodup)(hl:ks.length=ds.length)(hz:ks.length<=sizeLine)(hs:?jE:=by rfl)(hs2:?jN:=by rfl)
  (he:starEach [.Call (.Name "zip" p') [a,b] [] pos'] X.env=(?AN,eval (.Call (.Name "zip" p') [a,b] [] pos') X.env)::starEach [] X.env:=by rfl):P3 X Γ (.Call (.Name "dict" p) [.Call (.Name "zip" p') [a,b] [] pos'] [] pos) ?FH:=by
 intro pins s σ H Q I ⟨F,fh,sl,q⟩;have pl:=yc ha ?LP (hs.trans (by rw[hs2]));refine wpAny_Call_Name_kw (Vv I hg hm Cm (PyProof.Rows.callWith_type1 ?_ he));rw[he];show wpAny _ _ (spliced ((?AN,eval (.Call (.Name "zip" p') [a,b] [] pos') X.env)::backTo pos (starEach [] X.env))) _ _ s;refine Calls.spliced_cons (Call_ (Vv I hg2 hm2 boot_zip (PyProof.Rows.callWith_type1 (thn (pl pos' pins s σ H (fun vs H'=>∃ F',Pur F H F' H'/\IsL X.K F' [.lst ?FB,.lst ds] vs) I ⟨F,fh,sl,fun vs H' F' pu iv=>⟨F',pu,iv⟩⟩) fun us s1 ⟨vs,H1,I1,r1,q1⟩=>?_) (by rw[hs,hs2]) (by rw[hs2];rfl))));obtain⟨F1,pu,iv⟩:=q1;obtain⟨x,y,rfl,j0,j00⟩:=Bb iv;obtain⟨l1,xs,rfl,s1',j1⟩:=ze j0;obtain⟨l2,ys,rfl,s2',j2⟩:=ze j00;have ek:=uX j1;subst ek;cases r1 with
 |cons r rr=>
  cases rr with
  |cons r' rr=>
   cases rr;cases r;cases r';obtain⟨its1,rv1,p1,z1⟩:=I1.list (pu.fh.seq s1');obtain⟨its2,rv2,p2,z2⟩:=I1.list (pu.fh.seq s2');have lt1:l1<s1.heap.objs.size:=by obtain⟨_,e,_⟩:=p1.isList;exact yu e
   have lt2:l2<s1.heap.objs.size:=by obtain⟨_,e,_⟩:=p2.isList;exact yu e
   have L1:=rv1.length;rw[yd] at L1;have L2:=rv2.length;have L3:=j2.len;refine call_zip_2 p1.isList p2.isList fun g g1 g2 g3 g4 g5 sz kp=>?_;have e5:({s1 with heap:=g}:Shared).heap.objs.size=s1.heap.objs.size+5:=sz;have ge:s1.heap.objs.size<=g.objs.size:=by rw[sz];lia
   refine Calls.spliced_nil (bt (knd:=?LA) (xs:=its1.toArray) (ys:=its2.toArray) (ks:=ks) ?Ob (I1.ok.hd hc) ?qY ?qY hn hz (fun j k e=>?_) ⟨_,_,g1,.inl ?DR,⟨g2,g4,g5,p1.isList.at fun o e=>kp _ o e,p2.isList.at fun o e=>kp _ o e⟩,_,_,g3⟩ fun g' tk d' f'=>?_)
   .obtain⟨u,e1,e2⟩:=rv1.get (i:=j) (x:=kV k) (by rw[yz,e];rfl);exact⟨u,by simpa using e1,Wn e2⟩
   .have fresh:H1 g.objs.size=none:=I1.hok.fresh ge;have kp':∀ b o,s1.heap.get? b=some o->g'.get? b=some o:=fun b o e=>by
     have:=yu e;exact f' b o (Ym (Nat.lt_add_right 4 this)) (Ym (Nat.lt_add_right 3 this)) (Ym this) (Ym (Nat.lt_add_right 1 this)) (kp b o e)
    have hsm:(g.objs.size==sysModules)=false:=beq_eq_false_iff_ne.mpr (Ne.symm (Ym (Yc I1.big ge)));have I2:Inv X pins σ (upd H1 g.objs.size (.dK (ks.zip ys))) {s1 with heap:=g',toks:=tk}:=I1.laid (t':=tk) kp' ge ⟨?vM,hsm,_,tD rv2,d'⟩;obtain⟨ob,_,_,hob,_⟩:=id d';have I3:=I2.known yX rfl hob;have eu:upd (upd H1 g.objs.size (.dK (ks.zip ys))) g.objs.size (.frz ob (.dK (ks.zip ys)))=upd H1 g.objs.size (.frz ob (.dK (ks.zip ys))):=by
     funext c;by_cases hcc:c=g.objs.size
     .subst hcc;rw[yX,yX]
     .rw[yR hcc,yR hcc,yR hcc]
    rw[eu] at I3;refine⟨.ref g.objs.size,_,I3,rfl,q _ _ _ (pu.trans ?Ov) ?_⟩;simp only[Is];exact⟨_,ys,ob,rfl,yX,?A,j2.mono (?Ov).ff⟩
end
theorem b7 {K:?A1}{kt:?EE}{ds:?A7}{L:Bool}:∀ F o,oDt K kt ds F o->ZI L o=true:=fun F o ⟨xs,e,_⟩=>by subst e;rfl
theorem CM {K:?A1}{kt:?Aj}{ds:?A7}{L:Bool}:∀ F o,oDk K kt ds F o->ZI L o=true:=fun F o ⟨xs,e,_⟩=>by subst e;rfl
def xX (K:?A1)(B:Bs)(Ω:Om)(Γ Γ':Ga):Prop:=∀ F σ H,Sat K B Γ Ω F σ H->Sl K ?Bp Γ' σ
theorem IsL.same {K:?A1}{F:Hp}{ds:?A7}{xs:?AL}{j:Nat}{b:Addr}(il:?Eu)(hj:ds[j]?=some (.raw ?Be)):xs.set j (V.ref b)=xs:=by
 obtain⟨x,hx,ix⟩:=il.get hj;rw[isR ix] at hx;refine Qw fun i=>?_;rw[qN];split
 .rename_i e;subst e;rw[yf (yi.mp hx).1,hx]
 .rfl
section
variable {K:?A1}{B:Bs}{Γ Γ':Ga}{Ω:Om}{C:Addr}{fs:?A0}{ds vs:?A7}{kt:?Ka}{a b:Addr}{i j:Nat}
theorem Zw (h:?Kk):?KJ:=fun F σ H S=>S.lent h
theorem aJ (h:?KJ)(hi:?vF)(ha:(a,?LG)∈Ω)(hj:ds[j]?=some (.raw ?Be))(hb:(b,oDt K kt vs)∈Ω):xX K B Ω Γ (Γ'.set i (some (.obj C fs (ds.set j (.dt kt vs))))):=fun F σ H S n d q=>by
 rw[qN] at q;by_cases hn:i=n
 .rw[yf hn] at q;split at q
  .cases q;subst hn;obtain⟨v,e1,e2⟩:=S.sl i _ hi;cases isR e2;obtain⟨fa,o,h1,h2⟩:=S.own _ ha;obtain⟨dx,xs,rfl,hl,il⟩:=h2 F ?AE;obtain⟨fb,o',h3,h4⟩:=S.own _ hb;obtain⟨ys,rfl,hl',il'⟩:=h4 F ?AE;refine⟨_,e1,?_⟩;have ea:ZW Ω F H a=some (.ins C dx (fs.zip xs)):=by unfold ZW;rw[yf (yn.mpr ⟨_,ha,rfl⟩)];exact h1
   have eb:ZW Ω F H b=some (.dT (kt.zip ys)):=by unfold ZW;rw[yf (yn.mpr ⟨_,hb,rfl⟩)];exact h3
   have ib:Is K (ZW Ω F H) (.dt kt vs) (.ref b):=by
    simp only[Is];exact⟨b,ys,rfl,.inl eb,hl',il'.mono S.addSame⟩
   have:=(il.mono S.addSame).set j ib;rw[il.same hj] at this;simp only[Is];exact⟨a,dx,xs,rfl,ea,hl,this⟩
  .cases q
 .rw[ye hn] at q;exact h F σ H S n d q
end
section
theorem Kz (h:P3 X Γ' e d)(hl:?P0)(hd:?Gm)(hs:jL L d=true)(r:R d Ω):?Eg:=fun F σ H S=>
 h.we ⟨?Bp,?J0,hl F σ H S,fun v H' F' p i=>⟨d,Ω,?J2,?Hf,(?Gj).ff,?OL,r⟩⟩
theorem fG (h:PT3 X Γ' e k)(hl:?P0)(r:RT k Ω):?PM:=fun F σ H S=>
 h.wt ⟨?Bp,?J0,hl F σ H S,fun H' F' p=>⟨Ω,?J2,?Hf,(?Gj).ff,r⟩⟩
theorem DL (h:V3 X B e Γ Ω fun d Ω1=>∃ ks ds,d=.dk ks ds/\RL ?FB Ω1):?HI:=fun F σ H S pins s I=>
 mH jl pins s σ H _ I ((?AP).mono fun v H1 ⟨d,Ω1,F1,S1,f1,i1,ks,ds,ed,r⟩=>by
  subst ed;obtain⟨l,xs,ob,rfl,hl,hz,il⟩:=Cr i1;refine⟨l,ob,_,rfl,S1.fh _ _ hl,_,Ω1,F1,S1,f1,fun n F2 H2 e1 e2=>⟨fun d w=>?_,fun w=>⟨?HR,by rw[Y3];rw[yd] at w;lia⟩⟩,r⟩;rw[yz] at w;obtain⟨k,hk,rfl⟩:=Yk.mp w;have hn:n<ks.length:=(yi.mp hk).1;refine⟨⟨?HR,?vM⟩,fun x H3 ⟨z,k',v',hkv,ex⟩=>?_⟩;subst z ex;have:k'=k:=by
   rw[qG] at hkv;rw[hk] at hkv;exact(Option.some.inj hkv.1).symm
  subst this;refine ?JU;cases k' with
  |inl j=>exact JH F2
  |inr y=>exact X7 F2)
end
def spS(K:?A1)(n:Nat)(om:τ->Om)(C:?yB):Sp:=fun vs H Q _=>∃ t ds t' d F,C t ds t' d/\ds.length=n/\Yh F H/\IsL K F ds vs/\((om t).map ?C).Nodup/\(∀ p∈om t,F p.1=none/\∃ o,H p.1=some o/\∀ F',Yh F F'->p.2 F' o)/\
 ∀ v H' F',Yh F F'->Yh F' H'->(∀ b o,b∉(om t).map ?C->H b=some o->H' b=some o)->?kH->(∀ p∈om t',F' p.1=none/\∃ o,H' p.1=some o/\∀ F2,Yh F' F2->p.2 F2 o)->Is K F' d v->Q v H'
theorem spS.len {τ:Type}{K:?A1}{n:Nat}{om:τ->Om}{C:?yB}{vs:?AL}{H:Hp}{Q:VK}{E:XK}(h:spS K n om C vs H Q E):?wI:=by
 obtain⟨t,ds,t',d,F,_,l,_,i,_⟩:=h;rw[i.len,l]
section
theorem uU(ok:?MT)(c:?E3)(hr:?Am)(ho:P3 X Γ o ?Av)(hin:(a,?Kz)∈Ω)(hf:m∉fs)(ha:?yT)(hm:(om t').map ?C=(om t).map ?C)(pm:Ω.Perm (om t++Ω4))(hC:C t ?zJ t' d)(r:R d ?jC)(hn:?vQ:=by rfl)
  (hst:?T:=by rfl) (hpl:?zA:=by rfl)
  (ht:eval ?yO X.env=(do
   let ov ←eval o X.env
   standAt apos.atName
   let ?yJ ←holding [ov] (getMethod ov m pl)
   callWith pos f first ?wU ?zZ):=by rfl):?KF:=fun F σ H S pins s I=>by
 obtain⟨f,fd,Fn,hM,hb⟩:=ok;refine Wb (pl:=pl) ho c hM Fn hr hb .nil kM ha hst hpl ht pins s σ H _ I ⟨F,S.fh,S.sl,fun v H1 F1 p1 i1=>?_⟩;cases isR i1;have S1:=S.pur p1;obtain⟨fa,o1,ha1,ho1⟩:=S1.own _ hin;obtain⟨dx,xs,rfl,hl,il⟩:=ho1 F1 ?AE;refine⟨a,dx,_,rfl,ha1,ZC hf,F1,?Bj,S1.sl,fun us H2 F2 p2 i2=>?_⟩;dsimp only;rw[yM];have S2:=(?Gg).perm pm.symm;have nd2:=S2.nd;rw[yk] at nd2;have nds:=Ye.mp nd2;refine⟨t,?zJ,t',d,F2,hC,?xW,S2.fh,?KB,nds.1,fun p hp=>?GI,fun v H' F' g1 g2 g3 g4 g5 iv=>⟨d,?jC,F',?_,p1.ff.trans (p2.ff.trans g1),iv,r⟩⟩;refine⟨?LW,g2,fun b hb=>?_,fun b o hb e=>?_,?_,fun p hp=>?_,fun p hp=>?_,?Lp⟩
 .rcases g4 b hb with z|z
  .exact S2.fr b z
  .exact(?M7).elim (fun w=>?II) fun w=>.inr (.inr w)
 .refine g3 b o (fun z=>?_) ?LK;obtain⟨p,hp,rfl⟩:=yn.mp z;rcases S2.od p (yq _ hp) with z|z
  .exact hb z
  .have z':B.H p.1=none:=z;rw[z'] at e;cases e
 .rw[yk,hm,←yk];exact S2.nd
 .rcases Yj.mp hp with z|z
  .have:p.1∈(om t).map ?C:=by rw[←hm];exact yn.mpr ⟨p,z,rfl⟩
   obtain⟨p',hp',e⟩:=yn.mp this;rw[←e];exact S2.od p' (yq _ hp')
  .exact S2.od p ?EQ
 .rcases Yj.mp hp with z|z
  .exact g5 p z
  .obtain⟨h1,o2,h2,h3⟩:=S2.own p ?EQ;have nin:p.1∉(om t).map ?C:=fun y=>nds.2.2 _ y _ (yn.mpr ⟨p,z,rfl⟩) rfl;refine⟨?_,o2,g3 _ _ nin h2,fun F3 e3=>?Ju⟩;cases zz:F' p.1 with
   |none=>rfl
   |some u=>
    rcases g4 p.1 (by rw[zz];simp) with y|y
    .exact absurd h1 y
    .rw[h2] at y;cases y
end
end L3
namespace My
theorem mul_num (p q:Rat):(p*q).num=p.num / ((p.num.natAbs.gcd q.den:Nat):Int)*(q.num / ((q.num.natAbs.gcd p.den:Nat):Int)):=by
 show(Rat.mul p q).num=_;unfold Rat.mul;simp only[Int.divExact_eq_ediv]
theorem mul_den (p q:Rat):(p*q).den=q.den / p.num.natAbs.gcd q.den*(p.den / q.num.natAbs.gcd p.den):=by
 show(Rat.mul p q).den=_;unfold Rat.mul;simp only[Nat.divExact_eq_div,JI]
theorem Do {n1 d1 n2 d2:Nat}(h1:Nat.Coprime n1 d1)(h2:Nat.Coprime n2 d2)(p1:0<d1)(p2:0<d2) :
  Nat.gcd (n1*d2+n2*d1) (d1*d2)=Nat.gcd d1 d2*Nat.gcd (n1*(d2 / Nat.gcd d1 d2)+n2*(d1 / Nat.gcd d1 d2)) (Nat.gcd d1 d2):=by
 have g0:0<Nat.gcd d1 d2:=Nat.gcd_pos_of_pos_left _ p1;generalize hg:Nat.gcd d1 d2=g at *;obtain⟨e1,rfl⟩:g ∣ d1:=hg▸Nat.gcd_dvd_left _ _;obtain⟨e2,rfl⟩:g ∣ d2:=hg▸Nat.gcd_dvd_right _ _;have ce:Nat.Coprime e1 e2:=by
  rw[Nat.gcd_mul_left] at hg;exact Nat.eq_of_mul_eq_mul_left g0 (by rw[hg,Nat.mul_one])
 rw[ql _ g0,ql _ g0];have a1:Nat.Coprime e1 (n1*e2+n2*e1):=by
  show Nat.gcd e1 (n1*e2+n2*e1)=1;rw[JI n2 e1,Nat.gcd_add_mul_left_right];exact Nat.Coprime.mul_right ((h1.coprime_dvd_right ⟨g,JI _ _⟩).symm) ce
 have a2:Nat.Coprime e2 (n1*e2+n2*e1):=by
  show Nat.gcd e2 (n1*e2+n2*e1)=1;rw[Nat.add_comm,JI n1 e2,Nat.gcd_add_mul_left_right];exact Nat.Coprime.mul_right ((h2.coprime_dvd_right ⟨g,JI _ _⟩).symm) ce.symm
 rw[show n1*(g*e2)+n2*(g*e1)=g*(n1*e2+n2*e1) by grind,show g*e1*(g*e2)=g*(e1*(e2*g)) by grind,Nat.gcd_mul_left,a1.gcd_mul_left_cancel_right,a2.gcd_mul_left_cancel_right]
theorem add_num {p q:Rat}(hp:0<=p.num)(hq:0<=q.num):(p+q).num=?uE / G ?uE (G p.den q.den)/\
  ((p+q).den:Int)=p.den / G p.den q.den*(q.den / G ?uE (G p.den q.den)):=by
 obtain⟨n1,e1⟩:=YJ hp;obtain⟨n2,e2⟩:=YJ hq;have c1:Nat.Coprime n1 p.den:=by have:=p.reduced;rw[e1] at this;exact this
 have c2:Nat.Coprime n2 q.den:=by have:=q.reduced;rw[e2] at this;exact this
 have d1:=p.den_pos;have d2:=q.den_pos;rw[Rat.num_add,Rat.den_add,e1,e2];generalize p.den=b1 at *;generalize q.den=b2 at *;have gg:=Do c1 c2 d1 d2;have g0:0<Nat.gcd b1 b2:=Nat.gcd_pos_of_pos_left _ d1;have hG:G (b1:Int) b2=((Nat.gcd b1 b2:Nat):Int):=rfl;have hN:((n1:Int)*b2+n2*b1)=((n1*b2+n2*b1:Nat):Int):=by push_cast;rfl
 have ht:(n1:Int)*((b2:Int) / G b1 b2)+n2*((b1:Int) / G b1 b2)=((n1*(b2 / Nat.gcd b1 b2)+n2*(b1 / Nat.gcd b1 b2):Nat):Int):=by rw[hG];push_cast;rfl
 rw[ht,hG];rw[hN,qU,gg];generalize hgv:Nat.gcd b1 b2=g at *;obtain⟨e1',rfl⟩:g ∣ b1:=hgv▸Nat.gcd_dvd_left _ _;obtain⟨e2',rfl⟩:g ∣ b2:=hgv▸Nat.gcd_dvd_right _ _;rw[ql _ g0,ql _ g0];generalize hl:Nat.gcd (n1*e2'+n2*e1') g=l;have l0:0<l:=hl▸Nat.gcd_pos_of_pos_right _ g0;have hGl:G ((n1*e2'+n2*e1':Nat):Int) (g:Int)=(l:Int):=by rw[←hl];rfl
 obtain⟨m,hm⟩:l ∣ g:=hl▸Nat.gcd_dvd_right _ _;rw[hGl];constructor
 .rw[show n1*(g*e2')+n2*(g*e1')=g*(n1*e2'+n2*e1') by grind,←QW,←QW,Nat.mul_div_mul_left _ _ g0]
 .subst hm;rw[←QW,←QW,←qK];congr 1;rw[ql _ g0,show l*m*e1'*(l*m*e2')=(l*m*l)*(e1'*(m*e2')) by grind,ql _ (Qj g0 l0),show l*m*e2'=l*(m*e2') by grind,ql _ l0]
end My
namespace L3
open PySem PySem.Spec PySem.Calls PyProof.Rows L2
theorem Wx {a g:Int}(h:0<=a)(hg:0<g):0<=a / g/\a / g<=a:=⟨Int.ediv_nonneg h (yN hg),Int.ediv_le_self _ h⟩
theorem Uz {a b:Int}{n:Nat}(h:0<=b/\b<=a)(ha:a.natAbs<2 ^ n):b.natAbs<2 ^ n:=by lia
theorem uu(h:m<=n):2 ^ m<=2 ^ n:=YU ?B h
theorem EJ (p q:Rat):sh (p*q)=D.tup [D.int ((?Fv).num*(?Fu).num),D.int (((?Fv).den:Int)*((?Fu).den:Int))]:=by
 unfold sh;rw[My.mul_num,My.mul_den,←My.num_share ?Bb,←My.num_share ?Bq,←My.den_share ?Bb,←My.den_share ?Bq,qK,QW,QW,
  Yq _ ?Pc,Yq _ ?PO,Yq _ ?Pc,Yq _ ?PO]
 rfl
theorem UF {q:Rat}(h:0<q):q⁻¹.num=(q.den:Int)/\(q⁻¹.den:Int)=q.num:=by
 have hp:=My.q_num_pos h;rw[Rat.num_inv,Rat.den_inv];constructor
 .rw[Int.sign_eq_one_of_pos hp,Int.one_mul]
 .rw[ye (by lia)];lia
theorem E7 {q:Rat}(h:0<q):sh q⁻¹=D.tup [D.int (q.den:Int),D.int q.num]:=by
 unfold sh;rw[(UF h).1,(UF h).2]
theorem EV {q:Rat}{n:Nat}(h:0<q)(s:?CX):Sz n q⁻¹:=by
 have e:=UF h;have hp:=My.q_num_pos h;obtain⟨s1,s2⟩:=s;refine⟨?_,?_⟩
 .rw[e.1];exact s2
 .have:=e.2;lia
def Up (K:?A1):Sp:=fun vs H Q _=>∃ (a:Addr) (ns:List Int),vs=[.ref a]/\SqL K H a ?CD/\ns.length<=63/\∀ H',Q ?EG H'
theorem CG {P:?A6}{w:?A5}{K:?A1}{mg:?G}{base:Heap}{f:Addr}{fd:?Cx}{st:Stmt}{N:?A0}{k:Nat}{x:Str}(F:Fun K "law" "law" st f fd)(S:FnScope N [x] ?BS)
  (body:∀ (cdv:Value) (A:Around) (outer:List Env) (s:Shared) (H:Hp) (E:XK),Room k (A.deeper (envOfC "law" ?BS s.heap.objs.size f cdv))->∀ (ns:List Int),ns.length<=63->∀ B:Bs,B.M=[]->
   W3 (cx0 P w K mg base N "law" st f cdv A outer s H E) B ?Ae (jw N [.scr ns]) [] ⟨fun _ _=>?AC,fun r _=>r=.bl true,fun _ _=>?AC,fun _ _=>?AC⟩):FnOk P w K mg base CX0 (k+1) f fd [x] (Up K):=by
 refine F.ok S ?xO fun cdv A outer s H vs Q E hr h=>?DU
 .obtain⟨a,ns,rfl,_⟩:=h;rfl
 .obtain⟨a,ns,rfl,hS,hlen,q⟩:=h;have il:IsL K H [.scr ns] [.ref a]:=IsL.cons (by simp only[Is];exact⟨a,rfl,hS⟩) IsL.nil;refine Qs (D:=E3.to K ⟨[],H,H⟩ H ⟨fun _ _=>?AC,fun r _=>r=.bl true,fun _ _=>?AC,fun _ _=>?AC⟩) (D':={nx:=fun _ H'=>?Aq,rt:=Q}) ?_ ?_ ?_ ?_ (body cdv A outer s H E hr ns hlen ⟨[],H,H⟩ rfl H _ H (Sat.entry ?AE il))
  .rintro σ' H' ⟨_,_,_,_,_,z⟩;exact ?AR
  .rintro v H' ⟨r,Ω',F',⟨σ',S'⟩,f',iv,rfl⟩;rw[isB iv];exact q H'
  .rintro σ' H' ⟨_,_,_,_,_,z⟩;exact ?AR
  .rintro σ' H' ⟨_,_,_,_,_,z⟩;exact ?AR
theorem Dz {K:?A1}{H:Hp}{a:Addr}{ns:?CQ}(h:ns.length<=63)(hS:SqL K H a ?CD):Up K [.ref a] H (fun v _=>v=.bl true) fun _ _ _=>False:=⟨a,ns,rfl,hS,h,fun _=>rfl⟩
theorem lY {ds:?A7}:pln ?BP=vM ds:=by rw[pln]
theorem uI:∀ {ds:List D},(∀ d∈ds,pln d=true)->vM ds=true
 |[],_=>by rw[vM]
 |d::ds,h=>by rw[vM,h d (by simp),uI fun e he=>h e (yb _ he)];rfl
theorem Fy {q:Rat}:pln (sh q)=true:=rfl
theorem ux:∀ {ds:List D},(∀ d∈ds,dep d<=k)->Z2 ds<=k
 |[],_=>by rw[Z2];exact YC _
 |d::ds,h=>by
  rw[Z2];exact Nat.max_le.mpr ⟨h d (by simp),ux fun e he=>h e (yb _ he)⟩
theorem CW {q:Rat}:dep (sh q)<=1:=by
 show max 0 (max 0 0)+1<=1;decide
mutual
theorem WD:∀ {d:D},pln d=true->kin d d=true
 |.non,_=>rfl
 |.bl _,_=>rfl
 |.int _,_=>rfl
 |.str _,_=>rfl
 |.tup a,h=>by rw[kin];rw[pln] at h;exact UP h
 |.lst a,h=>by rw[kin];rw[pln] at h;exact UP h
 |.raw _,h=>by simp[pln] at h
 |.dk _ _,h=>by simp[pln] at h
 |.dt _ _,h=>by simp[pln] at h
 |.obj _ _ _,h=>by simp[pln] at h
 |.exc _,h=>by simp[pln] at h
 |.scr _,h=>by simp[pln] at h
theorem UP:∀ {d:List D},vM d=true->J1 d d=true
 |[],_=>rfl
 |a::as,h=>by
  rw[vM,Yw] at h;rw[J1,WD h.1,UP h.2];rfl
end
theorem fW {K:W.Frag}{h:Heap}{mg:Str->Option Value}(X:K.In h)(G:h.Ns mainGlobals mg){x:Str}{l:Addr}{od:Option Addr}{i j:Int}{t u:Tok}{n:Nat}{sl:Array (Option Value)}(a:W.nsIn K mainGlobals x=some (some (.ref l)))
  (lk:K.lookup l=some ⟨.type "tuple", od,.seq #[.int i t,.int j u] n,sl⟩):Qc K mg x (.tup [.int i,.int j]):=
 ⟨.ref l,.ref l,W.mg_of X G a,rfl,fun F=>Is.tupI (xs:=[.int i,.int j]) (.inr ⟨_,_,_,lk,rfl,rfl,by show 2<=sizeLine;decide,.cons ⟨_,rfl⟩ (.cons ⟨_,rfl⟩ .nil)⟩) (IsL.cons (JH F) (IsL.cons (JH F) IsL.nil))⟩
def lt (i:Nat):Nat:=if i<26 then 97+i else 65+(i - 26)
def tJ:Str:="abcdefghijklmnopqrstuvwxyzABCDEFGHIJKLMNOPQRSTUVWXYZ"
theorem rG:∀ i:Fin 52,tJ.cps.toList[i.val]?=some (lt i.val):=by decide +kernel
def KR (n:Nat):Bool:=(decide (97<=n)&&decide (n<=122))||(decide (65<=n)&&decide (n<=90))
theorem Fo(h:i<52):KR (lt i)=true:=by
 unfold lt KR;split <;> simp <;> lia
theorem E1(hi:i<52)(hj:j<52)(h:lt i=lt j):i=j:=by
 unfold lt at h;split at h <;> split at h <;> lia
def V4 (x:Str):Prop:=1<=x.cps.size/\x.cps.size<=8/\∀ c∈x.cps.toList,KR c=true
def szC (c:Int):Nat:=(1+c % 8).toNat
def atC (c:Int):Nat:=(?xQ).toNat
def bsC (c:Int):Nat:=(c / 64 % 52).toNat
def stp (c:Int)(k p:Nat):Nat:=bsC c+7*p+if p=atC c then k else 0
def K0 (c:Int)(k n:Nat):?DV:=(?Dw).map fun p=>lt (stp c k p % 52)
def KL (c:Int)(k:Nat):Str:=⟨(K0 c k (szC c)).toArray⟩
theorem gA (c:Int):1<=szC c/\szC c<=8:=by unfold szC;lia
theorem Fq (c:Int):((szC c:Nat):Int)=1+c % 8:=by unfold szC;lia
theorem FD (c:Int):atC c<szC c:=by
 have h:0<1+c % 8:=by lia
 have h1:=Int.emod_lt_of_pos (c / 8) h;have h2:=Int.emod_nonneg (c / 8) (show 1+c % 8≠0 by lia);unfold atC szC;lia
theorem A8 (c:Int):((atC c:Nat):Int)=c / 8 % (1+c % 8):=by
 have h2:=Int.emod_nonneg (c / 8) (show 1+c % 8≠0 by lia);unfold atC;lia
theorem Ap (c:Int):((bsC c:Nat):Int)=c / 64 % 52:=by unfold bsC;lia
theorem WP {c:Int}:(K0 c k n).length=n:=by unfold K0;simp
theorem oC {c:Int}:K0 c k (n+1)=K0 c k n++[lt (stp c k n % 52)]:=by unfold K0;rw[qw,yk];rfl
theorem Ey (c:Int)(k:Nat):V4 (KL c k):=by
 have:=gA c;refine⟨?_,?_,fun x hx=>?_⟩
 .unfold KL;simp[WP];lia
 .unfold KL;simp[WP];lia
 .unfold KL K0 at hx;simp only[yn,qS] at hx;obtain⟨p,_,rfl⟩:=hx;exact Fo ?Hg
theorem DR {c:Int}(hj:j<52)(hk:k<52)(h:KL c j=KL c k):j=k:=by
 have e:K0 c j (szC c)=K0 c k (szC c):=by
  unfold KL at h;injection h with h;simpa using h
 have ha:=FD c;have e2:(K0 c j (szC c))[atC c]?=(K0 c k (szC c))[atC c]?:=by rw[e]
 unfold K0 at e2;rw[yz,yz,jJ ha] at e2;simp only[Option.map_some,Option.some.injEq] at e2;have e3:=E1 ?Hg ?Hg e2;unfold stp at e3;rw[yf rfl,yf rfl] at e3;lia
theorem XO {α β:Type}{f:α->β}{l:?Ay}(h:∀ x∈l,∀ y∈l,f x=f y->x=y)(hn:l.Nodup):(l.map f).Nodup:=by
 unfold List.Nodup at hn ⊢;rw[List.pairwise_map];exact List.Pairwise.imp_of_mem (fun ha hb hab z=>hab (h _ ha _ hb z)) hn
theorem ie {c:Int}:∀ {n:Nat},n<=52->((?Dw).map (KL c)).Nodup:=fun {n} hn=>by
 refine XO (fun x hx y hy e=>?_) List.nodup_range;rw[qS] at hx hy;exact DR ?A ?A e
abbrev yC:=Str×List Str×Rat
def Qo (acc:?A0)(r:yC):?A0:=if r.1∈acc then acc else acc++[r.1]
def yJ (rs:?A4):?A0:=rs.foldl Qo []
def Jy (h:Str)(t:Rat)(r:yC):Rat:=if r.1=h then t+r.2.2 else t
def Qi (h:Str)(rs:?A4):Rat:=rs.foldl (Jy h) 0
structure GOk (hs ws:?A0)(rs:?A4):Prop where
 nd:(hs++ws).Nodup
 sym:∀ x∈hs++ws,V4 x
 h0:hs≠[]
 w0:ws≠[]
 hl:hs.length<=4
 wl:ws.length<=3
 r0:rs≠[]
 rl:rs.length<=12
 fst:yJ rs=hs
 one:∀ h∈hs,Qi h rs=1
 body:∀ r∈rs,1<=r.2.1.length/\r.2.1.length<=4/\∀ x∈r.2.1,x∈hs++ws
 pos:∀ r∈rs,0<r.2.2/\r.2.2.num.natAbs<2 ^ 5/\r.2.2.den<2 ^ 5
 prs:(rs.map fun r=>?Y).Nodup
abbrev Grp:=List (List Str×Rat)
def grp (h:Str)(g:Grp):?A4:=g.map fun p=>?qB
def vk (ps:List (Str×Grp)):?A4:=ps.flatMap fun p=>grp p.1 p.2
structure GrpOk (sy:?A0)(g:Grp):Prop where
 ne:g≠[]
 le:g.length<=3
 nd:(g.map ?C).Nodup
 one:(g.map ?zC).sum=1
 body:∀ p∈g,1<=p.1.length/\p.1.length<=4/\∀ x∈p.1,x∈sy
 pos:∀ p∈g,0<p.2/\p.2.num.natAbs<2 ^ 5/\p.2.den<2 ^ 5
theorem W8(hm:h∈acc):∀ g:Grp,(?FM).foldl Qo acc=acc
 |[]=>rfl
 |p::g=>by
  show(?FM).foldl Qo (Qo acc ?qB)=acc;rw[show Qo acc ?qB=acc from yf hm];exact W8 hm g
theorem oJ(hm:h∉acc):∀ {g:Grp},g≠[]->(?FM).foldl Qo acc=acc++[h]
 |[],hg=>absurd rfl hg
 |p::g,_=>by
  show(?FM).foldl Qo (Qo acc ?qB)=acc++[h]
  rw[show Qo acc ?qB=acc++[h] from ye hm];exact W8 (by simp) g
theorem WM:∀ {ps:List (Str×Grp)} {acc:List Str},(acc++ps.map ?C).Nodup->(∀ p∈ps,p.2≠[])->(?Cd).foldl Qo acc=acc++ps.map ?C
 |[],acc,_,_=>by simp[vk]
 |p::ps,acc,hn,hg=>by
  have nm:p.1∉acc:=fun z=>by
   rw[Ye] at hn;exact hn.2.2 _ z _ (by simp) rfl
  show(?vH).foldl Qo acc=_;rw[y7,oJ nm (hg p (by simp)),WM (by simpa using hn) fun q hq=>hg q ?Bt];simp
theorem Ut(hn:h'≠h):∀ (g:Grp) (t:Rat),(grp h' g).foldl (Jy h) t=t
 |[],t=>rfl
 |p::g,t=>by
  show(grp h' g).foldl (Jy h) (Jy h t (h',p.1,p.2))=t;rw[show Jy h t (h',p.1,p.2)=t from ye hn];exact Ut hn g t
theorem mv:∀ (g:Grp) (t:Rat),(?FM).foldl (Jy h) t=t+(g.map ?zC).sum
 |[],t=>by simp[grp,Rat.add_zero]
 |p::g,t=>by
  show(?FM).foldl (Jy h) (Jy h t ?qB)=_;rw[show Jy h t ?qB=t+p.2 from yf rfl,mv g,yt,List.sum_cons];grind
theorem aw:∀ {ps:List (Str×Grp)} {t:Rat},(∀ p∈ps,p.1≠h)->(?Cd).foldl (Jy h) t=t
 |[],t,_=>rfl
 |p::ps,t,hn=>by
  show(?vH).foldl (Jy h) t=t;rw[y7,Ut (hn p (by simp)),aw fun q hq=>hn q ?Bt]
theorem fE:∀ {ps:List (Str×Grp)} {t:Rat},(ps.map ?C).Nodup->(∀ p∈ps,(p.2.map ?zC).sum=1)->h∈ps.map ?C->(?Cd).foldl (Jy h) t=t+1
 |[],t,_,_,hm=>by simp at hm
 |p::ps,t,hn,ho,hm=>by
  rw[yt,Yi] at hn;show(?vH).foldl (Jy h) t=t+1;rw[y7];by_cases e:p.1=h
  .subst e;rw[mv,ho p (by simp),aw fun q hq z=>hn.1 (yn.mpr ⟨q,hq,z⟩)]
  .rw[Ut e,fE hn.2 (fun q hq=>ho q ?Bt)];rw[yt,yG] at hm;rcases hm with z|z
   .exact absurd z.symm e
   .exact z
theorem xv(h:r∈vk ps):∃ p∈ps,r.1=p.1/\(r.2.1,r.2.2)∈p.2:=by
 unfold vk grp at h;simp only[Y1,yn] at h;obtain⟨p,hp,q,hq,rfl⟩:=h;exact⟨p,hp,rfl,hq⟩
theorem WN:∀ {ps:List (Str×Grp)},(∀ p∈ps,p.2.length<=3)->(?Cd).length<=3*ps.length
 |[],_=>by simp[vk]
 |p::ps,h=>by
  have a:=WN (ps:=ps) fun q hq=>h q ?Bt;have b:=h p (by simp);show(?vH).length<=_;rw[yK,yw];have:(grp p.1 p.2).length=p.2.length:=by unfold grp;simp
  lia
theorem eP:∀ {ps:List (Str×Grp)},(ps.map ?C).Nodup->(∀ p∈ps,(p.2.map ?C).Nodup)->((?Cd).map fun r=>?Y).Nodup
 |[],_,_=>by simp[vk]
 |p::ps,hn,hg=>by
  rw[yt,Yi] at hn;show((?vH).map fun r=>?Y).Nodup;rw[yk,Ye];refine⟨?_,eP hn.2 fun q hq=>hg q ?Bt,fun x hx y hy e=>?_⟩
  .have h1:=hg p (by simp);unfold grp;rw[YB];have:((fun r:yC=>?Y) ∘ fun q:List Str×Rat=>(p.1,q.1,q.2))=(fun b=>(p.1,b)) ∘ fun q:List Str×Rat=>q.1:=rfl;rw[this,←YB];exact XO (fun a _ b _ e=>by injection e) h1
  .obtain⟨r,hr,rfl⟩:=yn.mp hx;obtain⟨r',hr',rfl⟩:=yn.mp hy;injection e with e1 e2;have a1:r.1=p.1:=by
    unfold grp at hr;obtain⟨q,_,rfl⟩:=yn.mp hr;rfl
   obtain⟨q,hq,b1,_⟩:=xv hr';exact hn.1 (yn.mpr ⟨q,hq,by rw[←b1,←e1,a1]⟩)
theorem CY(nd:(hs++ws).Nodup)(sym:∀ x∈hs++ws,V4 x)(h0:hs≠[])(w0:ws≠[])(hl:hs.length<=4)(wl:ws.length<=3)(hp:ps.map ?C=hs)(hg:∀ p∈ps,GrpOk (hs++ws) p.2):GOk hs ws ?Cd:=by
 have hn:hs.Nodup:=(Ye.mp nd).1;have len:ps.length=hs.length:=by rw[←hp,yd]
 refine⟨nd,sym,h0,w0,hl,wl,?_,?_,?_,fun h hh=>?_,fun r hr=>?_,fun r hr=>?_,?_⟩
 .intro z;cases ps with
  |nil=>rw[←hp] at h0;exact h0 rfl
  |cons p ps=>
   have z':grp p.1 p.2++vk ps=[]:=z;have:=(List.append_eq_nil_iff.mp z').1;unfold grp at this;exact(hg p (by simp)).ne (List.map_eq_nil_iff.mp this)
 .have:=WN (ps:=ps) fun p hp=>(?Gv).le;lia
 .have:=WM (ps:=ps) (acc:=[]) (by rw[Jl,hp];exact hn) fun p hp=>(?Gv).ne;rw[Jl,hp] at this;exact this
 .have:=fE (h:=h) (t:=0) (ps:=ps) (by rw[hp];exact hn) (fun p hp=>(?Gv).one) (by rw[hp];exact hh)
  rw[show(0:Rat)+1=1 by grind] at this;exact this
 .obtain⟨p,hp',_,hm⟩:=xv hr;exact(hg p hp').body _ hm
 .obtain⟨p,hp',_,hm⟩:=xv hr;exact(hg p hp').pos _ hm
 .exact eP (by rw[hp];exact hn) fun p hp=>(?Gv).nd
inductive Live (hs:?A0)(rs:?A4):Str->Prop
 |mk (r:yC) (hr:r∈rs) (hb:∀ x∈r.2.1,x∈hs->Live hs rs x):Live hs rs r.1
def jN (hs L b:?A0):Bool:=b.all fun x=>decide (x∈L)||!decide (x∈hs)
def zt (rs:?A4)(hs L:?A0)(h:Str):Bool:=rs.any fun r=>decide (r.1=h)&&jN hs L r.2.1
def zF (hs:?A0)(rs:?A4)(L:?A0):?A0:=hs.filter ?E0
open Classical in
def zL (hs:List Str)(rs:List yC):List Str:=hs.filter fun h=>decide (Live hs rs h)
theorem xG:jN hs L b=true ↔ ∀ x∈b,x∈hs->x∈L:=by
 unfold jN;rw[jZ];refine forall_congr' fun x=>forall_congr' fun _=>?_;by_cases h1:x∈L <;> by_cases h2:x∈hs <;> simp[h1,h2]
theorem ku:zt rs hs L h=true ↔ ∃ r∈rs,r.1=h/\∀ x∈r.2.1,x∈hs->x∈L:=by
 unfold zt;simp only[List.any_eq_true,Yw,Y0,xG]
theorem lq(h:∀ x∈L,x∈L'):∀ x∈zF hs rs L,x∈zF hs rs L':=fun x hx=>by
 unfold zF at hx ⊢;rw[Ys,ku] at hx ⊢;obtain⟨h1,r,hr,e,hb⟩:=hx;exact⟨h1,r,hr,e,fun y hy hh=>h y (hb y hy hh)⟩
def Wq (hs:?A0)(rs:?A4)(L:?A0):Prop:=(∃ p:Str->Bool,L=hs.filter p)/\(∀ x∈L,x∈zF hs rs L)/\∀ x∈L,Live hs rs x
theorem oh:Wq hs rs []:=⟨⟨fun _=>?AN,by simp⟩,fun x hx=>by simp at hx,fun x hx=>by simp at hx⟩
theorem gu(h:Wq hs rs L):Wq hs rs ?Cr:=by
 refine⟨?DM,lq h.2.1,fun x hx=>?_⟩;unfold zF at hx;rw[Ys,ku] at hx;obtain⟨h1,r,hr,e,hb⟩:=hx;subst e;exact .mk r hr fun y hy hh=>h.2.2 y (hb y hy hh)
theorem XE:∀ {l:List α},(∀ x∈l,p x=true->q x=true)->(?Lw).length<=(l.filter q).length/\((l.filter q).length<=(?Lw).length->l.filter p=l.filter q)
 |[],_=>by simp
 |a::l,h=>by
  have ih:=XE (p:=p) (q:=q) (l:=l) fun x hx=>h x ?Ap;have ha:=h a (by simp);cases hp:p a with
  |true=>
   rw[YD hp,YD (ha hp),yw,yw];exact⟨?A,fun z=>by rw[ih.2 (by lia)]⟩
  |false=>
   rw[YE (by simp[hp])];cases hq:q a with
   |true=>
    rw[YD hq,yw];exact⟨?A,fun z=>?A⟩
   |false=>
    rw[YE (by simp[hq])];exact ih
theorem dF(h:Wq hs rs L):L.length<=(?Cr).length/\((?Cr).length<=L.length->L=zF hs rs L):=by
 obtain⟨⟨p,rfl⟩,h2,_⟩:=h;refine XE fun x hx hp=>?_;have:=h2 x (Ys.mpr ⟨hx,hp⟩);unfold zF at this;exact(Ys.mp this).2
open Classical in
theorem pW(h:Wq hs rs L)(e:(zF hs rs L).length<=L.length)(hh:∀ r∈rs,r.1∈hs):zF hs rs L=zL hs rs:=by
 have e':=(dF h).2 e;have all:∀ x,Live hs rs x->x∈L:=fun x hx=>by
  induction hx with
  |mk r hr _ ih=>
   rw[e'];unfold zF;rw[Ys,ku];exact⟨hh r hr,r,hr,rfl,ih⟩
 unfold zL;rw[←e'];obtain⟨⟨p,hp⟩,_,h3⟩:=h;rw[hp] at all h3 ⊢;refine List.filter_congr fun x hx=>?_;rw[YG,Y0];exact⟨fun q=>h3 x (Ys.mpr ⟨hx,q⟩),fun q=>(Ys.mp (all x q)).2⟩
theorem dM:x∈Qo acc r ↔ x∈acc∨x=r.1:=by
 unfold Qo;split
 .rename_i h;exact⟨.inl,fun z=>z.elim id fun e=>e▸h⟩
 .simp
theorem aa:∀ {rs:List yC} {acc:List Str} {x:Str},x∈rs.foldl Qo acc ↔ x∈acc∨∃ r∈rs,x=r.1
 |[],acc,x=>by simp
 |r::rs,acc,x=>by
  rw[Yz,aa,dM];simp only[yG,exists_eq_or_imp,or_assoc]
theorem Jf:x∈yJ rs ↔ x∈rs.map ?C:=by
 unfold yJ;rw[aa];simp only[Y8,false_or,yn];exact⟨fun⟨r,h1,h2⟩=>⟨r,h1,?Gn⟩,fun⟨r,h1,h2⟩=>⟨r,h1,?Gn⟩⟩
section
variable {X:Cx}{B:Bs}{Γ:Ga}{Ω:Om}{a l e:Expr}{pos p2:Pos}{R:?X}
theorem no {ds:?A7}{x:V}{lo hi:?BJ}{Q:VK}(S:?HD)(i1:Is X.K F ?BP x)(q:∀ v H' F',Pur F H F' H'->Is X.K F' (.lst (vQ ds lo hi)) v->Q v H'):Ha X.K x lo hi H Q:=by
 obtain⟨b,xs,rfl,s1,j1⟩:=ze i1;exact⟨b,xs,rfl,S.fh.seq s1,fun c hc=>q _ _ _ (Pur.lay S.fh hc) (Is.lstI ?EK ((gM j1).mono (Pur.lay S.fh hc).ff))⟩
theorem CJ {ds:?A7}(ha:?CJ)(h:V3 X B e Γ Ω fun d Ω1=>∃ n:Int,d=.int n/\R (.lst (vQ ds none (some n))) Ω1):V3 X B (.Subscript a (.Slice none ?D1 none p2) pos) Γ Ω R:=fun F σ H S pins s I=>
 uC bT ha m9 (wZ jl) pins s σ H _ I ⟨F,S.fh,S.sl,fun x H1 F1 p1 i1=>(?PJ).mono fun v H2 ⟨d,Ω1,F2,S2,f2,i2,n,e2,r⟩=>by
  subst e2;refine⟨n,?CW,?_⟩;exact no (lo:=none) (hi:=some n) S2 ?Dz fun v' H' F' p' i'=>⟨_,Ω1,F',S2.pur p',p1.ff.trans (f2.trans p'.ff),i',r⟩⟩
theorem eO {m:Int}(ha:?CJ)(hl:P3 X Γ l (.int m))(h:V3 X B e Γ Ω fun d Ω1=>∃ n:Int,d=.int n/\R (.lst (vQ ds (some m) (some n))) Ω1):V3 X B (.Subscript a (.Slice (some l) ?D1 none p2) pos) Γ Ω R:=fun F σ H S pins s I=>
 uC bT ha (wZ hl) (wZ jl) pins s σ H _ I ⟨F,S.fh,S.sl,fun x H1 F1 p1 i1=>⟨F1,?Bj,S.sl.mono p1.ff,fun y H3 F3 p3 i3=>⟨m,isI i3,(h F3 σ H3 (S.pur ?Lb)).mono fun v H2 ⟨d,Ω1,F2,S2,f2,i2,n,e2,r⟩=>by
  subst e2;refine⟨n,?CW,?_⟩;exact no (lo:=some m) (hi:=some n) S2 (i1.mono (p3.ff.trans f2)) fun v' H' F' p' i'=>⟨_,Ω1,F',S2.pur p',(?Lb).ff.trans (f2.trans p'.ff),i',r⟩⟩⟩⟩
end
section
variable {X:Cx}{B:Bs}{Γ:Ga}{Ω:Om}{E:E3}{rest body:?Aw}{e c:Expr}{pos:Pos}
theorem Zt (h:V3 X B e Γ Ω fun _ Ω1=>W3 X B rest Γ Ω1 E)(hs:?uU:=by rfl):W3 X B (.Expr e pos::rest) Γ Ω E:=fun F σ H S pins s I=>
 qd (Kq jl hs) Qg pins s σ H _ I ((?AP).mono fun v H1 ⟨d,Ω1,F1,S1,f1,i1,h1⟩=>qF f1 ?Ba)
theorem W3.nx(h:W3 X B sts Γ Ω {E with nx:=J})(i:∀ Γ Ω,J Γ Ω->N Γ Ω):W3 X B sts Γ Ω {E with nx:=N}:=fun F σ H S=>
 Qs (D:=E3.to X.K B F {E with nx:=J}) (D':=E3.to X.K B F {E with nx:=N}) (fun _ _ ⟨Γ',Ω',F',S',f',n⟩=>⟨Γ',Ω',F',S',f',i _ _ n⟩) ?yC ?yC ?yC ?AP
theorem rY(J:?wE)(hc:?GB)(ht:k=true->W3 X B a Γ Ω {E with nx:=J})(hf:k=false->W3 X B b Γ Ω {E with nx:=J})(hr:∀ Γ Ω,J Γ Ω->W3 X B rest Γ Ω E):?tD:=
 zO hc (fun h=>(ht h).nx hr) fun h=>(hf h).nx hr
theorem mV(h:?GB)(q:k=k'):sV X Γ [c] k':=q▸K8 h
end
def Yd (b:?A0):D:=.tup ?IN
def jS (r:yC):D:=.tup [.str r.1,Yd r.2.1,sh r.2.2]
def yT (xs:?A0):?A7:=xs.map D.str
def yD (rs:?A4):?A7:=rs.map jS
theorem YK:(?D6).length=xs.length:=yd _
theorem YF:(?AO).length=rs.length:=yd _
theorem je {i:Nat}(h:(?D6)[i]?=some d):∃ x,xs[i]?=some x/\d=.str x:=by
 unfold yT at h;rw[yz] at h;obtain⟨x,h1,h2⟩:=Yk.mp h;exact ?Jz
theorem QC {i:Nat}(h:(?AO)[i]?=some d):∃ r,rs[i]?=some r/\d=jS r:=by
 unfold yD at h;rw[yz] at h;obtain⟨x,h1,h2⟩:=Yk.mp h;exact ?Jz
theorem Yg {α:Type}{l:?Ay}{i:Nat}{x:α}(h:l[i]?=some x):l.take (i+1)=l.take i++[x]:=by
 rw[List.take_succ,h];rfl
theorem B5(h:D.str x=D.str y):x=y:=by injection h
theorem me:qD ?Ce (.str y)=decide (x=y):=by
 by_cases h:x=y
 .subst h;rw[J2 (by rfl)];simp
 .rw[aX (fun z=>h (B5 z)),yA h]
theorem vJ:inD ?Ce (yT L)=decide (x∈L):=by
 unfold inD yT;rw[List.any_map,YG,List.any_eq_true,Y0];constructor
 .rintro⟨y,hy,e⟩;have e':qD (.str y) (.str x)=true:=e;rw[me,Y0] at e';exact e'▸hy
 .intro h;exact⟨x,h,by show qD ?Ce ?Ce=true;rw[me];simp⟩
theorem Vj:∀ e∈yT L,kin e ?Ce=true/\dep e<=60:=fun e he=>by
 unfold yT at he;obtain⟨y,_,rfl⟩:=yn.mp he;exact⟨rfl,YC _⟩
theorem zM:∀ {a b:List Str},a.map D.str=b.map D.str->a=b
 |[],[],_=>rfl
 |[],_::_,h=>by simp at h
 |_::_,[],h=>by simp at h
 |x::a,y::b,h=>by
  simp only[yt,List.cons.injEq,D.str.injEq] at h;rw[h.1,zM h.2]
theorem tN(h:Yd a=Yd b):a=b:=by
 unfold Yd at h;injection h with h;exact zM h
theorem dN {L:?A0}:vM (L.map D.str)=true:=uI fun d hd=>by
 obtain⟨y,_,rfl⟩:=yn.mp hd;rfl
theorem xE:pln (Yd b)=true:=by unfold Yd;rw[pln];exact dN
theorem eN:qD (Yd a) (Yd b)=decide (a=b):=by
 by_cases h:a=b
 .subst h;rw[J2 xE];simp
 .rw[aX (fun z=>h (tN z)),yA h]
theorem aq:∀ {a b:List Str},J1 (a.map D.str) ?IN=true
 |[],_=>by simp[J1]
 |_::_,[]=>by simp[J1]
 |x::a,y::b=>by
  rw[yt,yt,J1,aq];rfl
theorem eD:kin (Yd a) (Yd b)=true:=by unfold Yd;rw[kin];exact aq
theorem fj {b:?A0}:Z2 ?IN=0:=Nat.le_zero.mp (ux fun d hd=>by
 obtain⟨y,_,rfl⟩:=yn.mp hd;exact yg 0)
theorem Wl:dep (Yd b)<=1:=by unfold Yd;rw[dep,fj];exact yg _
theorem aj {b:?A0}{bs:?EI}:inD (Yd b) ?Cv=decide (b∈bs):=by
 unfold inD;rw[List.any_map,YG,List.any_eq_true,Y0];constructor
 .rintro⟨y,hy,e⟩;have e':qD (Yd y) (Yd b)=true:=e;rw[eN,Y0] at e';exact e'▸hy
 .intro h;exact⟨b,h,by show qD (Yd b) (Yd b)=true;rw[eN];simp⟩
theorem lv {b:?A0}{bs:?EI}:∀ e∈bs.map Yd,kin e (Yd b)=true/\dep e<=60:=fun e he=>by
 obtain⟨y,_,rfl⟩:=yn.mp he;have:=Wl (b:=y);exact⟨eD,?A⟩
theorem uh:∀ {xs:List Str},zB L ?D6=true
 |[]=>rfl
 |x::xs=>by
  show(jL L (D.str x)&&zB L ?D6)=true;rw[uh];rfl
def Xy (r:yC):?Az:=[.inl (.inr r.1),.inr (r.2.1.map Sum.inr)]
theorem nJ (r:yC):D.tup [.str r.1,Yd r.2.1]=kD (Xy r):=by
 unfold kD Xy Yd;simp only[yt,ji,k2D,KN,YB];rfl
theorem lP:∀ {a b:List Str},a.map (Sum.inr:Str->Key)=b.map Sum.inr->a=b
 |[],[],_=>rfl
 |[],_::_,h=>by simp at h
 |_::_,[],h=>by simp at h
 |x::a,y::b,h=>by
  simp only[yt,List.cons.injEq,Sum.inr.injEq] at h;rw[h.1,lP h.2]
theorem tY(h:Xy r=Xy s):?Y=(s.1,s.2.1):=by
 unfold Xy at h;simp only[List.cons.injEq,Sum.inl.injEq,Sum.inr.injEq,and_true] at h;rw[h.1,lP h.2]
def xW (rs:?A4):?zI:=rs.map fun r=>(Xy r,?EG)
theorem fR(h:?Y∉rs.map fun r=>?Y):atD (xW rs) (Xy r)=none:=by
 unfold atD xW;rw[Option.map_eq_none_iff,zb];intro p hp;obtain⟨q,hq,rfl⟩:=yn.mp hp;simp only[Y0];intro z;exact h (yn.mpr ⟨q,hq,tY z⟩)
theorem t8(h:?Y∉rs.map fun r=>?Y):wB (xW rs) (Xy r) ?EG=xW (rs++[r]):=by
 unfold wB;rw[fR h];unfold xW;rw[yk];rfl
theorem ue {α β:Type}{f:α->β}{l:?Ay}{i:Nat}{x:α}(hn:(l.map f).Nodup)(h:l[i]?=some x):f x∉(l.take i).map f:=fun z=>by
 obtain⟨y,hy,e⟩:=yn.mp z;obtain⟨j,hj,rfl⟩:=List.getElem_of_mem hy;rw[yH] at hj;have hj1:j<l.length:=by lia
 have hi:i<l.length:=(yi.mp h).1;rw[List.getElem_take] at e;have e1:(l.map f)[j]?=(l.map f)[i]?:=by
  rw[yz,yz,h,yl hj1];simp[e]
 have:=(List.getElem?_inj (by rw[yd];exact hj1) hn).mp e1;lia
theorem o9 {i j k:Int}(ha:?BI)(hb:?BF)(hc:P3 X Γ c (.int k))(hm:lastMarks [.LtE,.LtE] [b,c]=false:=by with_unfolding_all rfl):P3 X Γ (.Compare a [.LtE,.LtE] [b,c] pos) (.bl (decide (i<=j)&&decide (j<=k))):=
 PE.of (eS Et Et ha hb hc hm) fun σ H Q zq=>by
  obtain⟨F,fh,sl,q⟩:=zq;refine⟨F,fh,sl,fun v1 H1 F1 p1 i1=>⟨F1,?Bj,?DH,fun v2 H2 F2 p2 i2=>⟨i,j,?FU,?CW,decide (i<=j),rfl,?_⟩⟩⟩;cases e:decide (i<=j) with
  |true=>
   rw[yf rfl];exact⟨F2,p2.fh,?JM,fun v3 H3 F3 p3 i3=>⟨j,k,?CW,isI i3,q _ _ _ ((?CK).trans p3) (by rw[e];exact Wr F3)⟩⟩
  |false=>
   rw[ye yV];exact q _ _ _ ?CK (by rw[e];exact Wr F2)
open Classical in
def bI (x:Str):Bool:=decide (V4 x)
theorem xg:bI x=true ↔ V4 x:=@decide_eq_true_iff _ (Classical.propDecidable _)
def DS:?H:=fun ds d=>∃ x:Str,ds=[.str x]/\d=.bl (bI x)/\x.cps.size<=100/\x.cps.all (·<128)=true
def rL:?H:=fun ds d=>∃ c:Nat,ds=[.str ?zK]/\d=.bl (KR c)
def sI:?H:=fun ds d=>∃ x:Str,ds=[.str x]/\d=.non/\V4 x
def cv (r:yC):Prop:=V4 r.1/\1<=r.2.1.length/\r.2.1.length<=4/\(∀ x∈r.2.1,V4 x)/\0<r.2.2
def Gr:?H:=fun ds d=>∃ r:yC,ds=[jS r]/\d=.non/\cv r
def Ch:?H:=fun ds d=>∃ rs:List yC,ds=[.lst ?AO]/\d=.non/\1<=rs.length/\rs.length<=30/\(∀ r∈rs,cv r)/\(rs.map fun r=>?Y).Nodup
def Dh:?H:=fun ds d=>∃ (x:Str) (hs:List Str),ds=[.str x,.lst ?BQ]/\d=.non/\x∈hs
def DK:?H:=fun ds d=>∃ rs:List yC,ds=[.lst ?AO]/\d=.lst ?D8/\rs.length<=30
def AD:?H:=fun ds d=>∃ (hs:List Str) (rs:List yC),ds=[.lst ?BQ,.lst ?AO]/\d=.lst (yT (zL hs rs))/\rs.length<=30/\hs.length<=30/\(∀ r∈rs,r.1∈hs)/\∀ r∈rs,r.2.1.length<=4
def pD:?H:=fun ds d=>∃ (h:Str) (rs:List yC) (hs L:List Str),ds=[.str h,.lst ?AO,.lst ?BQ,.lst (yT L)]/\d=.bl (zt rs hs L h)/\rs.length<=30/\∀ r∈rs,r.2.1.length<=4
def lf:?H:=fun ds d=>∃ b hs L:List Str,ds=[Yd b,.lst ?BQ,.lst (yT L)]/\d=.bl (jN hs L b)/\b.length<=4
def gF:?A0:=["first", "kept_rules", "kept_heads", "kept_live"]
def gDs (st:Str)(rs:?A4):?A7:=[.str st,.lst ?AO,.lst ?D8,.lst (yT ?Eo)]
def gD (C:Addr)(st:Str)(rs:?A4):D:=.obj C gF (gDs st rs)
structure GV (st:Str)(rs:?A4):Prop where
 l1:1<=rs.length
 l2:rs.length<=30
 ok:∀ r∈rs,cv r
 nd:(rs.map fun r=>?Y).Nodup
 st:st∈yJ rs
 one:∀ h∈yJ rs,Qi h rs=1
 sz:∀ r∈rs,Sz 1000 r.2.2
def tT (C:Addr):?H:=fun ds d=>∃ (st:Str) (rs:List yC),ds=[gD C st rs]/\d=.str st
def AQ (C:Addr):?jU:=fun ds d=>∃ (st:Str) (rs:List yC),ds=[gD C st rs]/\d=yD rs
def AU (C:Addr):?jU:=fun ds d=>∃ (st:Str) (rs:List yC),ds=[gD C st rs]/\d=yT ?AJ
def Cq (C:Addr):?jU:=fun ds d=>∃ (st:Str) (rs:List yC),ds=[gD C st rs]/\d=yT ?Eo
theorem za:("start" : Str)∉gF:=by decide +kernel
theorem jg:("rules" : Str)∉gF:=by decide +kernel
theorem Zl:("heads" : Str)∉gF:=by decide +kernel
theorem V1:("live" : Str)∉gF:=by decide +kernel
structure ClsG (K:?A1)(C:Addr):Prop where
 c:Cls K C
 n_first:QM K C "first"
 n_kept_rules:QM K C "kept_rules"
 n_kept_heads:QM K C "kept_heads"
 n_kept_live:QM K C "kept_live"
theorem X9:∀ {rs:List yC} {acc:List Str},(rs.foldl Qo acc).length<=acc.length+rs.length
 |[],acc=>by simp
 |r::rs,acc=>by
  have:=X9 (rs:=rs) (acc:=Qo acc r);rw[Yz,yw];have:(Qo acc r).length<=acc.length+1:=by
   unfold Qo;split
   .lia
   .rw[yK];exact yg _
  lia
theorem iK:(?AJ).length<=rs.length:=by
 have:=X9 (rs:=rs) (acc:=[]);unfold yJ;simpa using this
theorem fy:jL true (.lst ?D6)=true:=by
 rw[jL,uh];rfl
theorem oz {xs:?A0}:dep (.lst ?D6)<=60:=by
 rw[dep];unfold yT;rw[fj];decide
theorem aC {xs:?A0}:pln (.lst ?D6)=true:=by rw[pln];exact dN
theorem GOk.gv {hs ws:?A0}{rs:?A4}(g:?GE){st:Str}(h:st∈hs):GV st rs where
 l1:=Qn.mpr g.r0
 l2:=by have:=g.rl;lia
 ok:=fun r hr=>⟨g.sym _ (yq _ (by rw[←g.fst,Jf];exact yn.mpr ⟨r,hr,rfl⟩)),(?IM).1,(?IM).2.1,fun x hx=>g.sym x ((?IM).2.2 x hx),(?Cq).1⟩
 nd:=g.prs
 st:=by rw[g.fst];exact h
 one:=fun h hh=>g.one h (by rw[←g.fst];exact hh)
 sz:=fun r hr=>Sz.mono (m:=5) ⟨(?Cq).2.1,(?Cq).2.2⟩ ?A
theorem D3(h:x.cps.toList=[n]):leS x ?zK=decide (n<=c):=by
 unfold leS;rw[h,YG];simp[List.cons_lt_cons_iff]
theorem DY(h:x.cps.toList=[n]):leS ?zK x=decide (c<=n):=by
 unfold leS;rw[h,YG];simp[List.cons_lt_cons_iff]
theorem pG(h:KR c=true):c<128:=by
 unfold KR at h;simp at h;lia
theorem o6(h:V4 x):x.cps.all (·<128)=true:=by
 rw[Array.all_eq_true_iff_forall_mem];intro c hc;simpa using pG (h.2.2 c (by simpa using hc))
theorem ox {i:Nat}(h:(xA x)[i]?=some d):∃ c,x.cps.toList[i]?=some c/\d=.str ?zK:=by
 unfold xA at h;rw[yz] at h;obtain⟨c,h1,h2⟩:=Yk.mp h;exact⟨c,h1,?Gn⟩
theorem pI:(xA x).length=x.cps.size:=by unfold xA;simp
theorem CT {K:?A1}{C:Addr}(pg:?tN)(hd:?vD)(po:?xG)(sa:?vS)
  (n1:W.findIn K ?AF "first" = some none) (n2:W.findIn K ?AF "kept_rules" = some none) (n3:W.findIn K ?AF "kept_heads" = some none) (n4:W.findIn K ?AF "kept_live" = some none):ClsG K C:=⟨?K8,n1,n2,n3,n4⟩
theorem bF {K:W.Frag}{h:Heap}{mg:Str->Option Value}(X:K.In h)(G:h.Ns mainGlobals mg){x:Str}{i:Int}{t:Tok}(a:W.nsIn K mainGlobals x=some (some (.int i t))):Qc K mg x (.int i):=
 ⟨.int i,.int i t,W.mg_of X G a,⟨t,rfl⟩,fun F=>JH F⟩
def wM (n:Nat)(W B:?I):?I:=fun i j=>if j<n then W i j else B i (j - n)
theorem mz {W B:?I}(h:km n n s W)(hb:km n m s B):km n (n+m) s (wM n W B):=fun i j hi hj=>by
 unfold wM;by_cases q:j<n
 .rw[yf q];exact h i j hi q
 .rw[ye q];exact hb i (j - n) hi ?A
theorem CF {W B:?I}:∀ i j,i<n->j<n->wM n W B i j=W i j:=fun i j _ hj=>by
 unfold wM;rw[yf hj]
theorem Bh {W B:?I}(h:Piv n W):Piv n (wM n W B):=fun k hk=>by
 rw[nh CF k (by lia) k k hk hk];exact h k hk
theorem XX:∀ {m:Nat} {g:Nat->α},tb n f++tb m g=tb (n+m) fun j=>if j<n then f j else g (j - n)
 |0,g=>by
  show tb n f++[]=tb n _;rw[yM];exact kO fun j hj=>by rw[yf hj]
 |m+1,g=>by
  rw[show n+(m+1)=(n+m)+1 from rfl,zw,zw,←QX,XX,ye ?A,Nat.add_sub_cancel_left]
theorem Go {W B:?I}:(tb n fun j=>sh (W i j))++(tb m fun j=>sh (B i j))=tb (n+m) fun j=>sh (wM n W B i j):=by
 rw[XX];refine kO fun j _=>?_;unfold wM;by_cases q:j<n
 .rw[yf q,yf q]
 .rw[ye q,ye q]
theorem DG:(tb (n+m) f).drop n=tb m fun j=>f (n+j):=by
 refine Qw fun i=>?_;rw[List.getElem?_drop];by_cases h:i<m
 .rw[zg h,zg ?A]
 .rw[yE.mpr ?qR,yE.mpr ?qR]
def IA (n m s:Nat)(W B:?I):Prop:=n<=1000/\m<=1000/\km n n s W/\km n m s B/\sK s n<=big
def GA:?H:=fun ds d=>∃ (n m s:Nat) (W B:Nat->Nat->Rat),ds=[shM n n W,shM n m B]/\d=shM n m (fun i j=>EK (wM n W B) n i (n+j))/\IA n m s W B/\Piv n W
section
variable {κ κ' α β:Type}[DecidableEq κ][DecidableEq κ']{f:κ->κ'}{g:α->β}
theorem VH (hf:∀ x y,f x=f y->x=y):∀ {ks:List κ} {xs:List α},vA (ks.map f) (xs.map g) (f k)=(vA ks xs k).map g
 |[],_=>rfl
 |_::_,[]=>rfl
 |q::ks,x::xs=>by
  have ih:=VH hf (k:=k) (ks:=ks) (xs:=xs);unfold vA at ih ⊢;rw[yt,yt,Yb,Yb,yS,yS];by_cases e:q=k
  .rw[yL e,yL (show f q=f k by rw[e])];rfl
  .rw[yA e,yA (show ¬ f q=f k from fun z=>e (hf _ _ z))];exact ih
theorem kI (hf:∀ x y,f x=f y->x=y){k:κ}{ks:?Ak}:f k∈ks.map f ↔ k∈ks:=by
 rw[yn];exact⟨fun⟨x,h,e⟩=>hf _ _ e▸h,fun h=>⟨k,h,rfl⟩⟩
theorem xM (hf:∀ x y,f x=f y->x=y){k:κ}{ks:?Ak}:pK (ks.map f) (f k)=(?DY).map f:=by
 unfold pK;by_cases h:k∈ks
 .rw[yf h,yf ((kI hf).mpr h)]
 .rw[ye h,ye fun z=>h ((kI hf).mp z),yk];rfl
theorem xx (hf:∀ x y,f x=f y->x=y){k:κ}{ks:?Ak}{xs:?Ay}{v:α}:pA (ks.map f) (xs.map g) (f k) (g v)=(?Ew).map g:=by
 unfold pA;by_cases h:k∈ks
 .rw[yf h,yf ((kI hf).mpr h),List.zip_map,YB,YB];refine Jv fun p _=>?_;show(if f p.1=f k then g v else g p.2)=g ?xA;by_cases e:p.1=k
  .rw[yf e,yf (by rw[e])]
  .rw[ye e,ye fun z=>e (hf _ _ z)]
 .rw[ye h,ye fun z=>h ((kI hf).mp z),yk];rfl
theorem cX:∀ {ks:List κ} {xs:List α},vA ks xs k=some v->v∈xs
 |[],_,h=>by simp[vA] at h
 |_::_,[],h=>by simp[vA] at h
 |q::ks,x::xs,h=>by
  unfold vA at h;rw[Yb,yS] at h;by_cases e:q=k
  .rw[yL e] at h;cases h;exact yh
  .rw[yA e] at h;exact yb _ (cX h)
theorem Ff {k:κ}{v x:α}{ks:?Ak}{xs:?Ay}(h:x∈pA ks xs k v):x=v∨x∈xs:=by
 unfold pA at h;split at h
 .obtain⟨p,hp,e⟩:=yn.mp h;split at e
  .exact .inl e.symm
  .exact .inr (e▸(QG hp).2)
 .rcases Yj.mp h with z|z
  .exact ?D5
  .exact ?Ht
theorem xI {k:κ}{ks:?Ak}:(?DY).length<=ks.length+1:=by
 unfold pK;split
 .lia
 .rw[yK];exact yg _
theorem i8 {k x:κ}{ks:?Ak}(h:x∈pK ks k):x=k∨x∈ks:=by
 unfold pK at h;split at h
 .exact .inr h
 .rcases Yj.mp h with z|z
  .exact ?D5
  .exact ?Ht
theorem HB {ks:?Ak}{F:Nat->α}{k:κ}:∀ {i:Nat},ks.Nodup->ks[i]?=some k->vA ks (tb ks.length F) k=some (F i):=by
 induction ks generalizing F with
 |nil=>intro i _ h;simp at h
 |cons q ks ih=>
  intro i nd h;rw[yw,BW];unfold vA;rw[Yb,yS];cases i with
  |zero=>
   rw[yL (show q=k by simpa using h)];rfl
  |succ i=>
   have hk:ks[i]?=some k:=by simpa using h
   have ne:¬ q=k:=fun e=>(?FI).1 (e▸yx hk);rw[yA ne];exact ih (F:=fun i=>F (i+1)) (?FI).2 hk
end
def zJ (hs L:?A0)(rs:?A4):?A4:=rs.filter fun r=>jN hs L r.2.1
def jt (L:?A0)(r:yC):Bool:=match r.2.1 with|[x]=>decide (x∈L)|_=>false
def b0 (r:yC):Str:=r.2.1.headD ""
def kW (p:Str×Str):?Aj:=[.inr p.1,.inr p.2]
def kS (p:Str×Nat×Nat):?Aj:=[.inr p.1,.inl (p.2.1:Int),.inl (p.2.2:Int)]
theorem ip:∀ x y,kW x=kW y->x=y:=fun⟨a,b⟩ ⟨c,d⟩ h=>by
 unfold kW at h;simp only[List.cons.injEq,Sum.inr.injEq,and_true] at h;rw[h.1,h.2]
theorem UR:∀ x y,kS x=kS y->x=y:=fun⟨a,b,c⟩ ⟨d,e,f⟩ h=>by
 unfold kS at h;simp only[List.cons.injEq,Sum.inr.injEq,Sum.inl.injEq,and_true,Int.ofNat_inj] at h;rw[h.1,h.2.1,h.2.2]
def qv:Str->Key:=Sum.inr
theorem j3:∀ x y,qv x=qv y->x=y:=fun x y h=>Sum.inr.inj h
def kA (ss:?A4)(h o:Str):Rat:=(vA (ss.map fun r=>?U) ?Lt (h,o)).getD 0
abbrev Kn:=List (Str×Nat×Nat)×List Rat
def knK (kn:Kn):?EE:=kn.1.map kS
def knV (kn:Kn):?A7:=kn.2.map sh
def knD (kn:Kn):D:=.dt (knK kn) (knV kn)
def JA (kn:Kn)(h:Str)(i j:Nat):Rat:=(vA kn.1 kn.2 ?zR).getD 0
def v7 (kn:Kn)(h:Str)(i j:Nat)(t:Rat):Kn:=(pK kn.1 ?zR,pA kn.1 kn.2 ?zR t)
def woS (hs row:?A0)(kn:Kn)(i j:Nat)(x:Str):Rat:=if x∈hs then JA kn x i j else if j=i+1/\row[i]?=some x then 1 else 0
abbrev En:=List Str×List Rat
def enD (e:En):D:=.dk (e.1.map qv) (e.2.map sh)
def chS (L:?A0)(ch:?I)(h o:Str):Rat:=ch ?Io (L.idxOf o)
def chD (L:?A0)(ch:?I):D:=.dk ?Bd (tb L.length fun i=>.dk ?Bd (tb L.length fun j=>sh (ch i j)))
def ju (ps:?CB):Rat:=ps.foldl (fun a p=>a+p.1*p.2) 0
def W6 (L:?A0)(ch:?I)(e:En)(h:Str):?CB:=e.1.map fun o=>(?IA,(vA e.1 e.2 o).getD 0)
def u0 (L:?A0)(ch:?I)(e:En)(h:Str):Rat:=ju (W6 L ch e h)
def QU (L:?A0)(ch:?I)(e:En)(i j:Nat)(kn:Kn)(h:Str):Kn:=if u0 L ch e h=0 then kn else v7 kn h i j (u0 L ch e h)
def Y7 (n:Nat):List ?J:=(?Dw).flatMap fun l=>(List.range (n - l)).map fun i=>(i,i+l+1)
def Zg (p:?J):D:=.tup [.int (p.1:Int),.int (p.2:Int)]
def Y4 (p:?K):D:=.tup [sh p.1,sh p.2]
def sF:?A0:=["grammar", "row", "known_heads", "branches", "chains", "known_sums", "known_worths"]
def Fx (n s:Nat):Nat:=n*(4*s+2)+2
def D0:?H:=fun ds d=>∃ (ps:List (Rat×Rat)) (s:Nat),ds=[.lst ?Ie]/\d=sh (ju ps)/\(∀ p∈ps,(0<=p.1/\Sz s p.1)/\0<=p.2/\Sz s p.2)/\Fx ps.length s<=big/\s<=10000000
def Gm:?H:=fun ds d=>∃ row:List Str,ds=[Yd row]/\d=.lst ((?AT).map Zg)/\row.length<=10
def DE (C:Addr):?H:=fun ds d=>∃ (st:Str) (rs:List yC),ds=[gD C st rs]/\d=.lst (yD (zJ ?AJ ?Eo rs))/\rs.length<=30/\∀ r∈rs,r.2.1.length<=4
def Cu:?H:=fun ds d=>∃ (r:yC) (L:List Str),ds=[jS r,.lst (yT L)]/\d=.bl (jt L r)
def wM2 (L:?A0)(ss:?A4):?I:=fun i j=>kA ss (L.getD i "") (L.getD j "")
def idM (L:?A0):?I:=fun i j=>if L.getD i "" = L.getD j "" then 1 else 0
def chF (L:?A0)(ss:?A4):?I:=fun i j=>EK (wM L.length ?Ge (idM L)) L.length i (L.length+j)
def rZ:?H:=fun ds d=>∃ (L:List Str) (ss:List yC) (s:Nat),ds=[.lst (yT L),.lst (yD ss)]/\d=chD L (chF L ss)/\L.Nodup/\L.length<=30/\ss.length<=30/\(∀ r∈ss,∃ x,r.2.1=[x])/\(ss.map fun r=>?U).Nodup/\(∀ r∈ss,0<=r.2.2/\Sz s r.2.2)/\1<=s/\sK s L.length<=big/\Piv L.length ?Ge
def sO (Cs:Addr)(g row hs br ch kn kw:D):D:=.obj Cs sF [g,row,hs,br,ch,kn,kw]
def AG (Cs:Addr):?H:=fun ds d=>∃ (g row hs br ch kw:D) (kn:Kn) (h:Str) (i j:Nat),ds=[sO Cs g row hs br ch (knD kn) kw,.str h,.int (i:Int),.int (j:Int)]/\d=sh ?IZ
def Aw (Cs Cg:Addr):?H:=fun ds d=>∃ (st:Str) (rs:List yC) (row:List Str) (hs br ch kw:D) (kn:Kn),ds=[sO Cs (gD Cg st rs) ?CH hs br ch (knD kn) kw]/\d=sh ?Oa
def Cd (Cs:Addr):?H:=fun ds d=>∃ (g br ch kw:D) (row hs:List Str) (kn:Kn) (x:Str) (i j:Nat),ds=[sO Cs g ?CH ?Br br ch (knD kn) kw,.str x,.int (i:Int),.int (j:Int)]/\d=sh ?El/\i<row.length
def oy:?H:=fun ds d=>∃ (c:Int) (m:Nat),ds=[.int c,.int (m:Int)]/\d=.lst (yT ((List.range m).map (KL c)))/\m<=20
def gy (sy b:?A0):Prop:=1<=b.length/\b.length<=4/\∀ x∈b,x∈sy
def fc (sy:?A0)(bs:?EI):Prop:=bs≠[]/\bs.length<=3/\bs.Nodup/\∀ b∈bs,gy sy b
def ph:?zM:=fun ds=>∃ (hs ws:List Str) (f:Bool),ds=[.lst ?BQ,.lst ?Bi,.bl f]/\ws≠[]/\hs.length<=4/\ws.length<=3
def su:?H:=fun ds d=>∃ (hs ws:List Str) (f:Bool) (bs:List (List Str)),ds=[.lst ?BQ,.lst ?Bi,.bl f]/\d=.lst ?Cv/\fc (hs++ws) bs
def nW:?zM:=fun ds=>∃ hs ws:List Str,ds=[.lst ?BQ,.lst ?Bi]/\ws≠[]/\hs.length<=4/\ws.length<=3
def tQ:?H:=fun ds d=>∃ (hs ws:List Str) (ps:List (Str×Grp)),ds=[.lst ?BQ,.lst ?Bi]/\d=.lst (yD ?Cd)/\ps.map ?C=hs/\∀ p∈ps,GrpOk (hs++ws) p.2
def UC (K:?A1):Sp:=fun vs H Q _=>∃ (c o:Int) (m:Nat) (F:Hp),vs=[.int c,.int o,.int (m:Int)]/\1<=m/\m<=4/\Yh F H/\
 ∀ (hs ws:List Str) (rs:List yC),GOk hs ws rs->hs.length<=m->∀ (v:V) (H' F':Hp),Pur F H F' H'->Is K F' (.tup [.lst ?BQ,.lst ?Bi,.lst ?AO]) v->Q v H'
theorem UC.len {K:?A1}{vs:?AL}{H:Hp}{Q:VK}{E:XK}(h:UC K vs H Q E):vs.length=3:=by
 obtain⟨c,o,m,F,rfl,_⟩:=h;rfl
theorem Gc {k:Nat}{i j:Int}{m:Nat}{R:?X}(o:OkF X.prog X.w X.K X.mg X.base CX0 k x ps (UC X.K))(hr:?Am)(hg:?Ai)(ha:?BI)(hb:?BF)(hc:P3 X Γ c ?qC)(h1:1<=m)(h2:m<=4)
  (h:∀ hs ws rs,GOk hs ws rs->hs.length<=m->R (.tup [.lst ?BQ,.lst ?Bi,.lst ?AO]) Ω) (hdb:?L:=by decide)
  (he:starEach [a,b,c] X.env=?qO::starEach [b,c] X.env:=by rfl) (he2:starEach [b,c] X.env=(?AN,?Ey)::starEach [c] X.env:=by rfl) (he3:starEach [c] X.env=(?AN,eval c X.env)::starEach [] X.env:=by rfl) (hpl:(backTo pos (starEach [b,c] X.env)).any ?C=false:=by rfl):V3 X B (.Call ?FG [a,b,c] [] pos) Γ Ω R:=fun F σ H S pins s I=>
 wg o hr hg (yc ha (yc hb (yc hc yr he3) he2) he) hdb he hpl pins s σ H _ I ⟨F,S.fh,S.sl,fun vs H' F' pu i=>by
  dsimp only;rw[yM];simp only[IsL] at i;obtain⟨x1,r1,rfl,i1,x2,r2,rfl,i2,x3,r3,rfl,i3,rfl⟩:=i;cases isI i1;cases isI i2;cases isI i3;exact⟨_,_,m,F',rfl,h1,h2,pu.fh,fun hs ws rs g hl v H2 F2 p2 iv=>⟨_,Ω,F2,S.pur ?IR,?Pe,iv,h hs ws rs g hl⟩⟩⟩
theorem Ca {P:?A6}{w:?A5}{K:?A1}{mg:?G}{base:Heap}{x:Str}{st:Stmt}{N ps:?A0}{k:Nat}(d:?F7)(S:?BW)(hn:ps.length=3)
  (body:∀ (f:Addr) (cdv:Value) (A:Around) (outer:List Env) (s:Shared) (H:Hp) (E:XK),Room k ?Fi->∀ (c o:Int) (m:Nat),1<=m->m<=4->∀ B:Bs,B.M=[]->
   W3 ?H9 B ?Ae (jw N [.int c,.int o,.int (m:Int)]) [] ?tU):OkF P w K mg base CX0 (k+1) x ps (UC K):=by
 refine d.ok S (fun vs H Q E h=>(UC.len h).trans hn.symm) fun f cdv A outer s H vs Q E hr h=>?DU
 obtain⟨c,o,m,F,rfl,h1,h2,fh,q⟩:=h;have il:IsL K F [.int c,.int o,.int (m:Int)] [.int c,.int o,.int (m:Int)]:=IsL.cons (JH F) (IsL.cons (JH F) (IsL.cons (JH F) IsL.nil));refine Qs (D:=E3.to K ?zS F ?tU) (D':={nx:=fun _ H'=>?Aq,rt:=Q}) ?_ ?_ ?_ ?_ (body f cdv A outer s H E hr c o m h1 h2 ?zS rfl F _ H ?GK)
 .rintro σ' H' ⟨_,_,_,_,_,z⟩;exact ?AR
 .rintro v H' ⟨r,Ω',F',⟨σ',S'⟩,f',iv,hs,ws,rs,g,hl,rfl⟩;exact q hs ws rs g hl v H' F' ?F9 iv
 .rintro σ' H' ⟨_,_,_,_,_,z⟩;exact ?AR
 .rintro σ' H' ⟨_,_,_,_,_,z⟩;exact ?AR
theorem CB {m n:Nat}(h:n<=ds.length)(hm:m<=ds.length):vQ ds (some (m:Int)) (some (n:Int))=(ds.drop m).take (n - m):=by
 unfold vQ;rw[show HT.sIx ds.length 0 (some (m:Int))=m from uQ hm,show HT.sIx ds.length ds.length (some (n:Int))=n from uQ h]
theorem XM:(?D6).take n=yT (xs.take n):=by unfold yT;rw[List.map_take]
theorem pQ:(?D6).drop n=yT (xs.drop n):=by unfold yT;rw[List.map_drop]
theorem FT {ns:?CQ}(hb:fc sy bs)(hl:ns.length=bs.length)(hn:∀ x∈ns,1<=x/\x<=5):GrpOk sy ((?FK).map fun p=>?jV):=by
 obtain⟨h1,h2,h3,h4⟩:=hb;have hs:∀ {l:List Int},(∀ x∈l,1<=x/\x<=5)->(l.length:Int)<=l.sum/\l.sum<=5*l.length:=by
  intro l
  induction l with
  |nil=>intro _;simp
  |cons a l ih=>
   intro h;have a1:=h a (by simp);have a2:=ih fun x hx=>h x ?Ap;rw[List.sum_cons,yw];lia
 have b0:0<bs.length:=Qn.mpr h1;have hw:=hs hn;have w0:0<ns.sum:=by lia
 refine⟨?_,?_,?_,?_,fun p hp=>?_,fun p hp=>?_⟩
 .intro z;have:=congrArg List.length z;rw[yd,Y3,qb] at this;lia
 .rw[yd,Y3];lia
 .rw[YB,show((fun x:List Str×Rat=>x.1) ∘ fun p:List Str×Int=>?jV)=Prod.fst from rfl,List.map_fst_zip ?A];exact h3
 .rw[YB,show((fun x:List Str×Rat=>x.2) ∘ fun p:List Str×Int=>?jV)=(fun n=>?Hi) ∘ Prod.snd from rfl,←YB,List.map_snd_zip ?A];have go:∀ {l:List Int},(l.map fun n=>?Hi).sum=Rat.divInt l.sum ns.sum:=by
   intro l
   induction l with
   |nil=>simp[Rat.zero_divInt]
   |cons a l ih=>
    rw[yt,List.sum_cons,List.sum_cons,ih,jD _ _ ?A ?A,←Int.add_mul,Rat.divInt_mul_right ?A]
  rw[go];exact Rat.divInt_self' ?A
 .obtain⟨q,hq,rfl⟩:=yn.mp hp;exact h4 q.1 (QG hq).1
 .obtain⟨q,hq,rfl⟩:=yn.mp hp;have a:=hn q.2 (QG hq).2;have z:=zI (n:=5) w0 (show q.2.natAbs<2 ^ 5 by lia) (show ns.sum.natAbs<2 ^ 5 by lia);refine⟨?_,z.1,z.2⟩;refine Rat.lt_of_le_of_ne (Rat.divInt_nonneg ?A ?A) fun z=>?_;have z:0=Rat.divInt q.2 ns.sum:=z;have e:=My.q_cross (t:=q.2) w0;rw[←z,show(0:Rat).num=0 from rfl,show(0:Rat).den=1 from rfl] at e;lia
theorem pL {X:Cx}{ds es:?A7}(hz:?kS):∀ (x y:V) (H F:Hp) (Q:VK),Yh F H->Is X.K F ?CA x->Is X.K F (.tup es) y->(∀ v H' F',Pur F H F' H'->Is X.K F' (.tup (ds++es)) v->Q v H')->tU X.K x y H Q:=fun x y H F Q fh i1 i2 k=>by
 obtain⟨l,xs,rfl,s1,j1⟩:=isT i1;obtain⟨l2,ys,rfl,s2,j2⟩:=isT i2;have e1:=j1.len;have e2:=j2.len;refine⟨l,l2,xs,ys,rfl,rfl,jE fh s1,jE fh s2,by rw[e1,e2];exact hz,fun z=>?_,fun z=>?_,fun q hq=>k _ _ _ (Pur.lay fh hq) (Is.tupI ?Dt ((j1.append j2).mono (Pur.lay fh hq).ff))⟩
 .have:ds=[]:=Qy.mp (by rw[←e1,z];rfl);subst this;exact k _ _ _ ?Ag (Is.tupI s2 j2)
 .have:es=[]:=Qy.mp (by rw[←e2,z];rfl);subst this;rw[yM] at k;exact k _ _ _ ?Ag (Is.tupI s1 j1)
theorem ik(h:(wN 0 n)[i]?=some d):i<n/\d=.int (i:Int):=by
 unfold wN at h;have hi:i<n:=by
  have:=(yi.mp h).1;simpa using this
 rw[yz,jJ hi] at h;refine⟨hi,?_⟩;have h':D.int (0+(i:Int))=d:=by simpa using h
 rw[←h',Int.zero_add]
theorem bL:(wN 0 n).length=n:=by unfold wN;simp
theorem GD {r:Int}(h1:0<=r)(h2:r<6):∃ w:Int,0<=w/\w<=3/\atI [D.int 0,.int 1,.int 1,.int 2,.int 0,.int 3] r=some (.int w):=by
 have:r=0∨r=1∨r=2∨r=3∨r=4∨r=5:=by lia
 rcases this with rfl|rfl|rfl|rfl|rfl|rfl <;> exact⟨_,?B,?B,rfl⟩
theorem Dj {r:Int}(h1:0<=r)(h2:r<so.length):∃ x∈so,atI (yT so) r=some ?Ce:=by
 obtain⟨k,rfl⟩:=YJ h1;have hk:k<so.length:=by lia
 refine⟨so[k],List.getElem_mem hk,JX ?_⟩;unfold yT;rw[yz,yl hk];rfl
theorem DB {c:Int}(q:Int)(h:q=(stp c k p:Nat)):atI tJ.cps.toList (q % 52)=some (lt (stp c k p % 52)):=by
 have e:q % 52=((stp c k p % 52:Nat):Int):=by lia
 rw[e];exact JX (rG ⟨stp c k p % 52,?Hg⟩)
theorem oN {bs:?EI}{ns:?CQ}{j:Nat}{d:D}(h:(ka ?Cv ?GT)[j]?=some d):∃ b n,(?FK)[j]?=some (b,n)/\d=.tup [Yd b,.int n]:=by
 unfold ka at h;rw[List.zip_map,YB,yz] at h;obtain⟨p,h1,h2⟩:=Yk.mp h;exact⟨p.1,p.2,h1,?Gn⟩
theorem oa {bs:?EI}{ns:?CQ}:(ka ?Cv ?GT).length=(?FK).length:=by
 unfold ka;rw[List.zip_map,YB,yd]
theorem rH:∀ {l:List Int},(∀ x∈l,1<=x/\x<=5)->(l.length:Int)<=l.sum
 |[],_=>by simp
 |a::l,h=>by
  have a1:=h a (by simp);have a2:=rH (l:=l) fun x hx=>h x ?Ap;rw[List.sum_cons,yw];lia
theorem BF:(⟨l.toArray⟩:Str)++?zK=⟨(l++[c]).toArray⟩:=by
 show Str.mk (l.toArray++#[c])=_;simp
theorem lu {p:List Str×Rat}:yD (rs++grp h (g++[p]))=yD (rs++grp h g)++[jS ?qB]:=by
 unfold yD grp;simp
section
variable {X:Cx}{B:Bs}{Γ:Ga}{Ω:Om}{E:E3}{rest body:?Aw}{e c:Expr}{pos:Pos}{x:Str}{ds es:?A7}{d:D}
theorem rA {i:Nat}(hi:?zF)(hv:?Em)(hΓ:?vF)(he:PF3 X Γ e es)(hz:?kS)(h:W3 X B rest Γ ((a,YW X.K (ds++es))::Ω) E)
  (hs:∀ {t:TE},PE X ?vZ t->PS X (.Expr ?vZ pos) (fK t):=by exact fun h=>Kq h)
  (hd:?L:=by decide) (hcd:?jO:=by decide) (hst:?wO:=by rfl)
  (hp:∀ {to:TE} {ta:TA},PE X ?GP to->PA X [e] ta->PE X ?vZ (tBM X.K "list" mF to ta):=by exact fun a b=>nv PySem.F.plainAttrs_list PySem.F.slot_list_extend PySem.F.type_list_extend pX a b) :
  W3 X B (.Expr ?vZ pos::rest) Γ ((a,?B7)::Ω) E:=fun F σ H S pins s I=>by
 obtain⟨v,e1,e2⟩:=S.sl i _ hΓ;cases isR e2;obtain⟨fa,o0,ha,ho⟩:=S.own (a,?B7) (by simp);obtain⟨xs,rfl,il⟩:=ho F ?AE;refine qd (hs (hp ?KT (zY he Vs hst))) Qg pins s σ H _ I ⟨_,e1,?HS,F,S.fh,S.sl,fun p ys H' F' pu hp fp e' iv=>?_⟩;have S1:=S.pur pu;exact⟨a,p,xs,ys,rfl,rfl,pu.hh _ _ ha,e',by rw[il.len,iv.len];exact hz,qF pu.ff (h F' σ _ (S1.turn fun F2 e2=>⟨_,rfl,(?Nl).append (iv.mono e2)⟩))⟩
end
theorem Kl {ps:?CB}{p:?K}:ju (ps++[p])=ju ps+p.1*p.2:=by
 unfold ju;rw[y7];rfl
theorem Ks {x y g:Int}(h:0<g):Rat.divInt (x*g) (y*g)=Rat.divInt x y:=Rat.divInt_mul_right ?A
theorem FE {t b n e:Int}(hb:0<b)(he:0<e):Rat.divInt (t*(e / My.G b e)+n*(b / My.G b e)) (b / My.G b e*e)=Rat.divInt t b+Rat.divInt n e:=by
 have g0:0<My.G b e:=My.G_pos he;obtain⟨b',eb⟩:My.G b e ∣ b:=by have:=Int.gcd_dvd_left b e;exact this
 obtain⟨e',ee⟩:My.G b e ∣ e:=by have:=Int.gcd_dvd_right b e;exact this
 generalize hg:My.G b e=g at *;have d1:b / g=b':=by rw[eb,QT _ ?A]
 have d2:e / g=e':=by rw[ee,QT _ ?A]
 rw[d1,d2,jD _ _ ?A ?A,←Ks (x:=t*e'+n*b') (y:=b'*e) g0];congr 1
 .rw[ee,eb];grind
 .rw[eb];grind
theorem Vq {α:Type}{f:α->D}{xs:?Ay}{i:Nat}{d:D}(h:(xs.map f)[i]?=some d):∃ x,xs[i]?=some x/\d=f x:=by
 rw[yz] at h;obtain⟨x,h1,h2⟩:=Yk.mp h;exact ?Jz
def aE (n i:Nat):List ?J:=(List.range i).flatMap fun l=>(List.range (n - l)).map fun j=>(j,j+l+1)
theorem xQ:aE n (i+1)=aE n i++(List.range (n - i)).map fun j=>(j,j+i+1):=by
 unfold aE;rw[qw,Qk];simp
theorem o7:(aE n i).length<=n*i:=by
 induction i with
 |zero=>simp[aE]
 |succ i ih=>
  rw[xQ,yK,yd,List.length_range,Nat.mul_succ];lia
theorem Vd:yT L=(?Bd).map KN:=by unfold yT;rw[YB];rfl
theorem xN {L:?A0}(h:?Gq):(?Bd).Nodup:=by
 rw[List.nodup_iff_pairwise_ne,List.pairwise_map];exact(List.nodup_iff_pairwise_ne.mp h).imp fun a b=>a (j3 _ _ b)
theorem nA(hs:∀ r∈ss,0<=r.2.2/\Sz s r.2.2)(h1:1<=s):0<=kA ss h o/\Sz s (kA ss h o):=by
 unfold kA;cases q:vA (ss.map fun r=>?U) (ss.map ?qD) (h,o) with
 |none=>exact⟨?B,Xw.mono h1⟩
 |some v=>
  obtain⟨r,hr,e⟩:=yn.mp (cX q);rw[←e];exact hs r hr
theorem BG {F:?I}{i:Nat}(h:(ka (yT L) (tb L.length fun i=>?P2))[i]?=some d):∃ x,i<L.length/\L[i]?=some x/\d=.tup [.str x,shR L.length (F i)]:=by
 unfold ka at h;rw[yz] at h;obtain⟨p,h1,h2⟩:=Yk.mp h;obtain⟨a,b⟩:=qG.mp h1;obtain⟨x,hx,ex⟩:=je a;have hi:i<L.length:=(yi.mp hx).1;rw[zg hi] at b;refine⟨x,hi,hx,?_⟩;rw[←h2,ex,←Option.some.inj b]
theorem tR {F:?I}:(ka (yT L) (tb L.length fun i=>?P2)).length=L.length:=by
 unfold ka;rw[yd,Y3,YK,YT];lia
end L3
namespace Law
open PySem L2 L3
theorem Jx:FnScope ["one", "other", "rest"] ["one", "other"] (yo jf):=qZ
theorem dZ:FnScope ["top", "bottom", "divisor"] ["top", "bottom"] (yo VP):=qZ
theorem uL:FnScope ["one", "other", "divisor", "top", "left"] ["one", "other"] (yo Vw):=qZ
theorem fI:FnScope ["one", "other"] ["one", "other"] (yo Zi):=qZ
theorem W5:FnScope ["one", "other", "first", "second"] ["one", "other"] (yo Kr):=qZ
theorem nZ:FnScope ["one", "other"] ["one", "other"] (yo Ve):=qZ
theorem qm:FnScope ["pairs", "top", "bottom", "one", "other", "below", "divisor"] ["pairs"] (yo Qr):=qZ
theorem gZ:FnScope ["one", "other"] ["one", "other"] (yo Z7):=qZ
theorem KG:FnScope ["self", "start", "rules"] ["self", "start", "rules"] (yo QA):=qZ
theorem Uy:FnScope ["self"] ["self"] (yo jz):=qZ
theorem Uc:FnScope ["self"] ["self"] (yo jx):=qZ
theorem UE:FnScope ["self"] ["self"] (yo jy):=qZ
theorem wL:FnScope ["self"] ["self"] (yo jV):=qZ
theorem vh:FnScope ["rules", "seen", "rule"] ["rules"] (yo Jq):=qZ
theorem KW:FnScope ["rule", "symbol"] ["rule"] (yo J3):=qZ
theorem wy:FnScope ["text"] ["text"] (yo jX):=qZ
theorem aT:FnScope ["text"] ["text"] (yo JC):=qZ
theorem bp:FnScope ["sign"] ["sign"] (yo zK):=qZ
theorem WK:FnScope ["start", "heads"] ["start", "heads"] (yo Jo):=qZ
theorem zk:FnScope ["heads", "rules", "head", "total", "rule"] ["heads", "rules"] (yo JY):=qZ
theorem kz:FnScope ["rules", "heads", "rule"] ["rules"] (yo Zn):=qZ
theorem Zk:FnScope ["heads", "rules", "live", "grown", "found"] ["heads", "rules"] (yo Zj):=qZ
theorem Uo:FnScope ["head", "rules", "heads", "live"] ["head", "rules", "heads", "live"] (yo QY):=qZ
theorem ww:FnScope ["body", "heads", "live"] ["body", "heads", "live"] (yo jj):=qZ
theorem VE:FnScope ["row", "found", "length"] ["row"] (yo JO):=qZ
theorem JP:FnScope ["ways", "ends", "rows", "k", "found"] ["ways", "ends"] (yo QE):=qZ
theorem vC:FnScope ["row", "k", "left"] ["row", "k"] (yo QB):=qZ
theorem ai:FnScope ["row", "k", "found", "way"] ["row", "k", "found"] (yo vb):=qZ
theorem i9:FnScope ["row", "k"] ["row", "k"] (yo Z5):=qZ
theorem jU:FnScope ["self", "grammar", "row", "live", "rules", "i", "j"] ["self", "grammar", "row"] (yo Qu):=qZ
theorem xp:FnScope ["self", "head", "i", "j"] ["self", "head", "i", "j"] (yo Jp):=qZ
theorem Xs:FnScope ["self"] ["self"] (yo J6):=qZ
theorem zR:FnScope ["self", "i", "j", "ends", "head", "total"] ["self", "i", "j"] (yo jP):=qZ
theorem zx:FnScope ["self", "i", "j", "ends", "rule", "worth"] ["self", "i", "j"] (yo jY):=qZ
theorem Xx:FnScope ["self", "symbol", "i", "j"] ["self", "symbol", "i", "j"] (yo J5):=qZ
theorem Zh:FnScope ["self", "body", "i", "j"] ["self", "body", "i", "j"] (yo Qh):=qZ
theorem QV:FnScope ["self", "body", "i", "j", "pairs", "middle", "worth"] ["self", "body", "i", "j"] (yo qk):=qZ
theorem vS:FnScope ["grammar", "heads", "live"] ["grammar"] (yo Je):=qZ
theorem lB:FnScope ["rule", "heads"] ["rule", "heads"] (yo Z9):=qZ
theorem jb:FnScope ["heads", "steps", "straight", "rule", "ways", "ends", "head", "chains", "found"] ["heads", "steps"] (yo j8):=qZ
theorem Js:FnScope ["self", "grammar", "row", "span", "i", "j"] ["self", "grammar", "row"] (yo jW):=qZ
theorem wC:FnScope ["self", "head", "i", "j"] ["self", "head", "i", "j"] (yo JQ):=qZ
theorem Zv:FnScope ["self", "rule", "head", "body", "pairs"] ["self", "rule"] (yo J8):=qZ
theorem Xo:FnScope ["self", "body", "i", "j", "pair"] ["self", "body", "i", "j", "pair"] (yo zP):=qZ
theorem qR:FnScope ["self", "i", "j", "bodies", "chains", "firsts", "head"] ["self", "i", "j"] (yo qB):=qZ
theorem zN:FnScope ["self", "i", "j", "rule"] ["self", "i", "j"] (yo Qp):=qZ
theorem qE:FnScope ["self", "i", "j", "bodies", "body", "total", "middle"] ["self", "i", "j"] (yo YN):=qZ
theorem Zm:FnScope ["grammar", "counted", "rules", "counts", "sums", "found", "rule", "count"] ["grammar", "counted"] (yo kR):=qZ
theorem JW:FnScope ["grammar", "counted", "counts", "row", "many", "parts"] ["grammar", "counted"] (yo JK):=qZ
theorem zv:FnScope ["rules", "counts", "sums", "rule", "count"] ["rules", "counts"] (yo JD):=qZ
theorem xK:FnScope ["_law_script", "_law_k"] ["_law_script", "_law_k"] (yo zp):=qZ
theorem fw:FnScope ["_law_cell"] ["_law_cell"] (yo vg):=qZ
theorem eT:FnScope ["_law_dice_here", "_law_most"] ["_law_dice_here", "_law_most"] (yo va):=qZ
theorem qJ:FnScope ["_law_cell", "_law_many", "_law_letters", "_law_size", "_law_at", "_law_out", "_law_k", "_law_name", "_law_place", "_law_step"] ["_law_cell", "_law_many"] (yo Jm):=qZ
theorem J9:FnScope ["_law_top", "_law_bottom", "_law_one", "_law_other", "_law_rest"] ["_law_top", "_law_bottom"] (yo zG):=qZ
theorem bY:FnScope ["_law_one", "_law_other"] ["_law_one", "_law_other"] (yo ZF):=qZ
theorem cU:FnScope ["_law_one", "_law_other"] ["_law_one", "_law_other"] (yo ZA):=qZ
theorem jd:FnScope ["_law_dice_here", "_law_heads", "_law_words", "_law_first", "_law_out", "_law_k", "_law_body", "_law_place", "_law_some"] ["_law_dice_here", "_law_heads", "_law_words", "_law_first"] (yo zV):=qZ
theorem Jc:FnScope ["_law_dice_here", "_law_heads", "_law_words", "_law_out", "_law_head", "_law_bodies_here", "_law_weights", "_law_body", "_law_weight"] ["_law_dice_here", "_law_heads", "_law_words"] (yo zH):=qZ
theorem ZE:FnScope ["_law_cell", "_law_other", "_law_most", "_law_symbols_here", "_law_dice_here", "_law_heads", "_law_words"] ["_law_cell", "_law_other", "_law_most"] (yo vd):=qZ
theorem WU:FnScope ["_law_cell", "_law_words", "_law_most", "_law_dice_here"] ["_law_cell", "_law_words", "_law_most"] (yo Z6):=qZ
theorem zX:FnScope ["_law_script", "_law_words", "_law_out", "_law_k", "_law_row_here"] ["_law_script", "_law_words"] (yo zr):=qZ
theorem Jn:FnScope ["_law_grammar", "_law_rules_here", "_law_counted_here", "_law_counts_here", "_law_row_here", "_law_many", "_law_parts", "_law_k"] ["_law_grammar", "_law_rules_here", "_law_counted_here"] (yo J0):=qZ
theorem zA:FnScope ["_law_rules_here", "_law_counts_here", "_law_out", "_law_k", "_law_whole", "_law_j", "_law_own"] ["_law_rules_here", "_law_counts_here"] (yo Vg):=qZ
theorem zE:FnScope ["_law_script", "_law_most", "_law_heads", "_law_words", "_law_rules_here", "_law_by", "_law_grammar", "_law_counted_here", "_law_row_here", "_law_many", "_law_handed", "_law_found", "_law_due_here"] ["_law_script"] (yo d8):=qZ
section
variable {P:?A6}{w:?A5}{K:?A1}{mg:?G}{base:Heap}{C_Grammar C_Sums C_Parts:Addr}
variable (P w K mg base) in
abbrev lU:Prop:=OkF P w K mg base CX0 2 "common_divisor" ["one", "other"] (spP K 2 GX)
theorem uT  (d:Yt K mg "common_divisor" jf ["one", "other"])  : ?Hy:=by
 refine YS d Jx rfl fun f cdv A outer s H E hr ds r hC B hB=>?_;obtain⟨a,b,rfl,rfl,ha,hb⟩:=hC;refine aN PassesOwn.never (fun Γ _=>∃ (x y:Int) (z:Option D),Γ=[some (.int x),some (.int y),z]/\0<=x/\0<=y/\My.G x y=My.G a b) (fun Γ _=>match Γ with|[_,some (.int y),_]=>y.toNat|_=>0) ⟨a,b,none,rfl,ha,hb,rfl⟩ ?_;rintro Γ Ω ⟨x,y,z,rfl,hx,hy,hg⟩;refine⟨_,(qI (fz ?AQ yB)),fun hk=>?_,fun hk=>?_⟩
 .have hk:=of_decide_eq_true hk;refine Y2 (i:=2) Jx.nd rfl ?A3 (Va ?A9 ?AQ ?_) ?_
  .exact hk
  refine Y2 (i:=0) Jx.nd rfl ?A3 ?AQ ?_;refine Y2 (i:=1) Jx.nd rfl ?A3 ?AS ?_;refine y9 ⟨⟨y,x % y,_,rfl,hy,(zZ hk).1,(lM hx hk).trans hg⟩,?_⟩;have:=zZ (a:=x) hk;show(x % y).toNat<y.toNat
  lia
 .have hk:=of_decide_eq_false hk;refine qH ?A9 ?_;have y0:y=0:=by lia
  subst y0;rw[My.G_end hx] at hg;show D.int x=D.int (My.G a b);rw[hg]
variable (P w K mg base) in
abbrev nC:Prop:=OkF P w K mg base CX0 33 "share" ["top", "bottom"] (spP K 2 mw)
theorem BJ (ht:?qQ)(d:Yt K mg "share" VP ["top", "bottom"])(jh:?Hy):?Hd:=by
 refine YS d dZ rfl fun f cdv A outer s H E hr ds r hC B hB=>?_;obtain⟨t,b,rfl,rfl,h1,h2⟩:=hC;have py:Pyl (cx0 P w K mg base ["top", "bottom", "divisor"] "share" VP f cdv A outer s H E):=(?JV).nox;have g0:=My.G_pos (a:=t) h2;refine zO (qI (oU ?A9 yB)) ?_ ?_
 .intro hk;have hk:=of_decide_eq_true hk;lia
 .intro hk;refine ?B2;refine zO (qI (oU ?AQ yB)) ?_ ?_
  .intro hk;have hk:=of_decide_eq_true hk;lia
  .intro hk;refine ?B2;refine Y2 (i:=2) dZ.nd rfl ?A3 (Yp (d:=.int (My.G t b)) jh ?A2 rfl ?HG ?_) ?_
   .exact⟨t,b,rfl,rfl,h1,yN h2⟩
   refine ?ML
   .exact g0
   .exact g0
   show D.tup [D.int (t / My.G t b),D.int (b / My.G t b)]=sh ?Ch;unfold sh;rw[←My.num_share h2,←My.den_share h2,Yq _ (yN g0),Yq _ (yN g0)]
variable (P w K mg base) in
abbrev XU:Prop:=OkF P w K mg base CX0 33 "added" ["one", "other"] (spP K 2 nj)
theorem tG (ht:?qQ)(d:Yt K mg "added" Vw ["one", "other"])(jh:?Hy):?F1:=by
 refine YS d uL rfl fun f cdv A outer s H E hr ds r hC B hB=>?_;obtain⟨p,q,m,n,rfl,rfl,hp,hq,s1,s2,l1,l2,-⟩:=hC;have py:Pyl (cx0 P w K mg base ["one", "other", "divisor", "top", "left"] "added" Vw f cdv A outer s H E):=(xR ht rfl rfl hr ?B).nox;have g0:0<My.G p.den q.den:=My.G_pos ?Bb;have n1:=My.q_num_nn hp;have n2:=My.q_num_nn hq;have c1:=Wx (a:=(p.den:Int)) (g:=?Dq) (yN ?Bq) g0;have c2:=Wx (a:=(q.den:Int)) (g:=?Dq) (yN ?Bb) g0;refine Y2 (i:=2) uL.nd rfl ?A3 (Yp (d:=.int ?Dq) jh ?A2 rfl ?Ox ?_) ?_
 .exact⟨_,_,rfl,rfl,yN ?Bq,yN ?Bb⟩
 refine Y2 (i:=3) uL.nd rfl ?A3 (zf (JM ?CL (Jw py ?Di ?AS ?_) ?_) (JM ?Di (Jw py ?CL ?AS ?_) ?_)) ?_
 .exact g0
 .exact JZ s1.1 (Uz c2 (j9 s2)) (by have:big=67108864:=rfl;lia)
 .exact g0
 .exact JZ s2.1 (Uz c1 (j9 s1)) (by have:big=67108864:=rfl;lia)
 have t0:0<=p.num*((q.den:Int) / My.G p.den q.den)+q.num*((p.den:Int) / My.G p.den q.den):=Int.add_nonneg (QD n1 c2.1) (QD n2 c1.1);have e:=My.add_num n1 n2;generalize hT:p.num*((q.den:Int) / My.G p.den q.den)+q.num*((p.den:Int) / My.G p.den q.den)=T at *;have h0:0<My.G T (My.G p.den q.den):=My.G_pos g0;have c3:=Wx (a:=(q.den:Int)) (g:=My.G T ?Dq) (yN ?Bb) h0;refine Y2 (i:=4) uL.nd rfl ?A3 (Yp (d:=.int (My.G T ?Dq)) jh ?A2 rfl (yc ?B9 ?FY) ?_) ?_
 .exact⟨_,_,rfl,rfl,t0,yN g0⟩
 refine qH (QO (yc (Jw py ?B9 ?Ab ?_) (yc (JM (Jw py ?CL ?AS ?_) (Jw py ?Di ?Ab ?_) ?_) yr))) ?_
 .exact h0
 .exact g0
 .exact h0
 .exact JZ (Uz c1 (j9 s1)) (Uz c3 (j9 s2)) (by have:big=67108864:=rfl;lia)
 show D.tup [D.int (T / My.G T ?Dq),D.int ((p.den:Int) / My.G p.den q.den*((q.den:Int) / My.G T ?Dq))]=sh (p+q);unfold sh;rw[e.1,e.2]
variable (P w K mg base) in
abbrev An:Prop:=OkF P w K mg base CX0 2 "is_less" ["one", "other"] (spP K 2 Gg)
theorem iV  (d:Yt K mg "is_less" Z7 ["one", "other"])  : ?KR:=by
 refine YS d gZ rfl fun f cdv A outer s H E hr ds r hC B hB=>?_;obtain⟨p,q,m,n,rfl,rfl,s1,s2,l1,l2⟩:=hC;refine qH (kC (oU ?Df ?LN)) ?_
 .exact ?L7
 .exact ?L0
 .show D.bl (decide (p.num*q.den<q.num*p.den))=D.bl (decide (p<q));rw[decide_eq_decide.mpr (My.q_lt p q)]
variable (P w K mg base) in
abbrev DZ:Prop:=OkF P w K mg base CX0 34 "lessened" ["one", "other"] (spP K 2 iG)
theorem dP  (d:Yt K mg "lessened" Zi ["one", "other"])(KD:?Hd)(UU:?KR):DZ P w K mg base:=by
 refine YS d fI rfl fun f cdv A outer s H E hr ds r hC B hB=>?_;obtain⟨p,q,m,n,rfl,rfl,hp,hq,s1,s2,l1,l2,hle⟩:=hC;refine zO (vF (Yp (d:=.bl (decide (p<q))) UU ?A2 rfl ?HG ?_)) ?_ ?_
 .exact⟨p,q,m,n,rfl,rfl,s1,s2,l1,l2⟩
 .intro hk;have hk:=of_decide_eq_true hk;exact absurd hk (Rat.not_lt.mpr hle)
 .intro hk;refine ?B2;refine qH (Yp (d:=sh (p - q)) KD ?A2 rfl (yc (m7 ?Df ?LN) (yc ?Df yr)) ?_) ?_
  .exact ?L7
  .exact ?L0
  .exact ?Kn
  .exact⟨_,_,rfl,by rw[My.q_sub],EQ hle,ic⟩
  .rfl
variable (P w K mg base) in
abbrev X8:Prop:=OkF P w K mg base CX0 34 "timed" ["one", "other"] (spP K 2 lX)
theorem AO  (d:Yt K mg "timed" Kr ["one", "other"])(KD:?Hd):?Ev:=by
 refine YS d W5 rfl fun f cdv A outer s H E hr ds r hC B hB=>?_;obtain⟨p,q,m,n,rfl,rfl,hp,hq,s1,s2,l1,l2,-⟩:=hC;have n1:=My.q_num_nn hp;have n2:=My.q_num_nn hq;have z1:=zI (n:=max m n) ?Bb (Yc s1.1 ?Nr) (Yc (j9 s2) ?Nd);have z2:=zI (n:=max m n) ?Bq (Yc s2.1 ?Nd) (Yc (j9 s1) ?Nr);refine Y2 (i:=2) W5.nd rfl ?A3 (Yp (d:=sh ?Fv) KD ?A2 rfl ?Ox ?_) ?_
 .exact⟨_,_,rfl,rfl,n1,?Bb⟩
 refine Y2 (i:=3) W5.nd rfl ?A3 (Yp (d:=sh ?Fu) KD ?A2 rfl (yc ?Di (yc ?CL yr)) ?_) ?_
 .exact⟨_,_,rfl,rfl,n2,?Bq⟩
 refine qH (QO (yc (JM ?I0 ?DJ ?_) (yc (JM ?I0 ?DJ ?_) yr))) ?_
 .exact rB z1 z2 ?A ?A
 .exact bM z1 z2 ?A ?A
 show D.tup [D.int ((?Fv).num*(?Fu).num),D.int (((?Fv).den:Int)*((?Fu).den:Int))]=sh (p*q);exact(EJ p q).symm
variable (P w K mg base) in
abbrev lT:Prop:=OkF P w K mg base CX0 35 "parted" ["one", "other"] (spP K 2 AL)
theorem nQ (y6:?V)(d:Yt K mg "parted" Ve ["one", "other"])(Z3:?Ev):?Ik:=by
 refine YS d nZ rfl fun f cdv A outer s H E hr ds r hC B hB=>?_;obtain⟨p,q,m,n,rfl,rfl,hp,hq,s1,s2,l1,l2,h0⟩:=hC;have hu:=hr.units;refine zO (qI (Xq hr.units (pq 1 rfl) (Y5 y6 rfl) Ja Jg)) ?_ ?_
 .intro hk;rw[QL] at hk;have hk:=of_decide_eq_true hk;rw[hk] at h0;exact absurd h0 ?B
 .intro hk;refine ?B2;refine qH (Yp (d:=sh (p / q)) Z3 ?A2 rfl (yc (pq 0 rfl) (yc (QO (yc (Yr (pq 1 rfl) yB rfl) (yc (Yr (pq 1 rfl) yB rfl) yr))) yr)) ?_) ?_
  .refine⟨p,q⁻¹,m,n,by rw[E7 h0],by rw[jO],hp,YH (Rat.inv_pos.mpr h0),s1,EV h0 s2,l1,l2,trivial⟩
  .rfl
end
section
variable {P:?A6}{w:?A5}{K:?A1}{mg:?G}{base:Heap}{C_Grammar C_Sums C_Parts:Addr}
variable (P w K mg base) in
abbrev Bu:Prop:=OkF P w K mg base CX0 2 "cleared" ["row", "k"] (spP K 2 oO)
theorem ig (y6:?V)(d:Yt K mg "cleared" Z5 ["row", "k"])  : ?KM:=by
 refine YS d i9 rfl fun f cdv A outer s H E hr ds r hC B hB=>?_;obtain⟨m,k',f',rfl,rfl,hk,hm⟩:=hC;refine qH (eQ (eQ (PF3.p (ko (pq 0 rfl) VL (VA (pq 1 rfl)))) (eR (yc (Y5 y6 rfl) yr)) ?_) (PF3.p (ko (pq 0 rfl) (VA (zf (pq 1 rfl) yB)) VL)) ?_) ?_
 .rw[cY (by lia),ni ?A,YT];show k'+1<=sizeLine;unfold sizeLine;lia
 .rw[yK,cY ?A,ni ?A,YT,m4 ?A,j7,YT];show k'+1+_<=sizeLine;unfold sizeLine;lia
 .rw[cY (by lia),m4 ?A,EL hk,Fw];rfl
variable (P w K mg base) in
abbrev D8:Prop:=OkF P w K mg base CX0 36 "without_itself" ["row", "k"] (spP K 2 oV)
theorem uN (z:?AM)(y6:?V)(Zd:?wJ)(d:Yt K mg "without_itself" QB ["row", "k"])(UU:?KR)(lI:DZ P w K mg base)(k9:?Ik)(UX:?KM):D8 P w K mg base:=by
 refine YS d vC rfl fun f cdv A outer s H E hr ds r hC B hB=>?_;obtain⟨m,k',s',f',rfl,rfl,hk,hm,nn,hb,h1⟩:=hC;have a:=nn k' hk;have p:=kG h1;have hu:=hr.units;have sb:Sz (1+s'+1) (1 - f' k'):=iZ gU a.2;refine zO (qI (Xq hr.units (JL (d:=?IV) (pq 0 rfl) (pq 1 rfl) ?_) (Y5 y6 rfl) Ja Jg)) ?_ ?_
 .exact ua hk
 .intro hz;rw[QL] at hz;have hz:=of_decide_eq_true hz;refine qH (pq 0 rfl) ?_;refine Kj fun j hj=>?_;rw[hz];by_cases h:j=k'
  .rw[yf h,h,hz]
  .rw[ye h];grind
 intro _;refine ?B2;refine zO (eA (vF (Yp (d:=.bl true) UU ?A2 rfl (yc (JL (d:=?IV) (pq 0 rfl) (pq 1 rfl) ?_) (yc (Y5 Zd rfl) yr)) ?_))) ?_ ?_
 .exact ua hk
 .exact⟨f' k',1,s',1,rfl,by rw[yL h1],a.2,gU,by lia,by decide⟩
 .intro hk;cases hk
 .intro _;refine ?B2;refine Y2 (i:=2) vC.nd rfl (.inr rfl) (Yp (d:=sh (1 - f' k')) lI ?A2 rfl (yc (Y5 Zd rfl) (yc (JL (d:=?IV) (pq 0 rfl) (pq 1 rfl) ?_) yr)) ?_) ?_
  .exact ua hk
  .exact⟨1,f' k',1,s',rfl,rfl,?B,a.1,gU,a.2,?B,?A,YH h1⟩
  refine qH (PF3.p (Jb (SX:=yo QB) (XN:=["row", "k", "left"]) (N:=["way", "left"]) (nt:=1) (caps:=[2]) (pre:=(fun i=>tb i fun j=>sh (if j=k' then 0 else f' j / (1 - f' k')))) ⟨rfl,?E,?E,?E,rfl,?E⟩ (QH (Yp (d:=shR m (fun j=>if j=k' then 0 else f' j)) UX ?A2 rfl (yc (pq 0 rfl) (yc (pq 1 rfl) yr)) ?_)) ?_ ?_ ?_)) ?_
  .exact⟨m,k',f',rfl,rfl,hk,hm⟩
  .intro i hi;rw[YT] at hi ⊢;unfold sizeLine;lia
  .rfl
  .intro c i d hd;have hi:i<m:=by
    have:=(?Gs).1
    rwa [YT] at this
   rw[zg hi] at hd;cases hd;refine⟨_,(Yl (i:=0) (show List.Nodup (α:=Str) ["way", "left"] by decide +kernel) rfl (.inl rfl)),(Sub.set rfl),.inl ⟨sh (if i=k' then 0 else f' i / (1 - f' k')),zU,(Yp (d:=sh (if i=k' then 0 else f' i / (1 - f' k'))) k9 ?A2 rfl (yc (pq 0 rfl) (yc (pqc 1 rfl) yr)) ?_),?_⟩⟩
   .refine⟨_,1 - f' k',s'+1,1+s'+1,rfl,?_,?_,YH p,?_,sb,?A,?A,p⟩
    .dsimp only;by_cases h:i=k'
     .rw[yf h,yf h];congr 1;grind
     .rw[ye h,ye h]
    .dsimp only;by_cases h:i=k'
     .rw[yf h];decide
     .rw[ye h];exact(nn i hi).1
    .dsimp only;by_cases h:i=k'
     .rw[yf h];exact ?M3
     .rw[ye h];exact(nn i hi).2.mono ?A
   .exact zw
  .rw[YT];rfl
variable (P w K mg base) in
abbrev D5:Prop:=OkF P w K mg base CX0 35 "put_in" ["row", "k", "found"] (spP K 3 HQ)
theorem oE (z:?AM)(y6:?V)(d:Yt K mg "put_in" vb ["row", "k", "found"])(Z4:?F1)(Z3:?Ev)(UX:?KM):D5 P w K mg base:=by
 refine YS d ai rfl fun f cdv A outer s H E hr ds r hC B hB=>?_;obtain⟨m,k',s',f',g',rfl,rfl,hk,hm,nn,nng,hb,hg⟩:=hC;have a:=nn k' hk;have hu:=hr.units;refine Y2 (i:=3) ai.nd rfl (.inr rfl) (JL (d:=?IV) (pq 0 rfl) (pq 1 rfl) ?_) ?_
 .exact ua hk
 refine zO (qI (Xq hr.units (pqc 3 rfl) (Y5 y6 rfl) Ja Jg)) ?_ ?_
 .intro hz;rw[QL] at hz;have hz:=of_decide_eq_true hz;refine qH (pq 0 rfl) ?_;refine Kj fun j hj=>?_;rw[hz];by_cases h:j=k'
  .rw[yf h,h,hz]
  .rw[ye h];grind
 .intro hz;refine ?B2;refine qH (PF3.p (Jb (SX:=yo vb) (XN:=["row", "k", "found", "way"]) (N:=["kept", "more", "way"]) (nt:=2) (caps:=[3]) (pre:=(fun i=>tb i fun j=>sh (if j=k' then 0 else f' j+f' k'*g' j))) ⟨rfl,?E,?E,?E,rfl,?E⟩ (fx z.zip rfl (Yp (d:=shR m (fun j=>if j=k' then 0 else f' j)) UX ?A2 rfl (yc (pq 0 rfl) (yc (pq 1 rfl) yr)) ?_) (pq 2 rfl)) ?_ ?_ ?_)) ?_
  .exact⟨m,k',f',rfl,rfl,hk,hm⟩
  .intro i hi;unfold ka at hi;rw[yd,iz,YT] at hi;rw[YT];unfold sizeLine;lia
  .rfl
  .intro c i d hd;unfold ka at hd;rw[iz] at hd;have hi:i<m:=by
    have:=(?Gs).1
    rwa [yd,YT] at this
   rw[yz,zg hi] at hd;cases hd;have zs:Sz (s'+1) (if i=k' then 0 else f' i):=by
    by_cases h:i=k'
    .rw[yf h];exact ?M3
    .rw[ye h];exact(nn i hi).2.mono ?A
   have zn:0<=(if i=k' then 0 else f' i):=by
    by_cases h:i=k'
    .rw[yf h];decide
    .rw[ye h];exact(nn i hi).1
   refine⟨_,(vo rfl (qh (Yl (i:=0) (show List.Nodup (α:=Str) ["kept", "more", "way"] by decide +kernel) rfl (.inl rfl)) (qh (Yl (i:=1) (show List.Nodup (α:=Str) ["kept", "more", "way"] by decide +kernel) rfl (.inl rfl)) zD))),(Sub.trans (Sub.set rfl) (Sub.set rfl)),.inl ⟨sh ?kK,zU,(mU (d:=sh ?kK) (qI (Xq hr.units (pq 1 rfl) (Y5 y6 rfl) Ja Jg)) (fun hc=>(zC (pq 0 rfl) ?_)) (fun hc=>(zC (Yp (d:=sh ?kK) Z4 ?A2 rfl (yc (pq 0 rfl) (yc (Yp (d:=sh (f' k'*g' i)) Z3 ?A2 rfl (yc (pqc 2 rfl) (yc (pq 1 rfl) yr)) ?_) yr)) ?_) ?_))),?_⟩⟩
   .rw[QL] at hc;have hc:=of_decide_eq_true hc;show sh (if i=k' then 0 else f' i)=sh ?kK;rw[hc];congr 1;by_cases h:i=k'
    .rw[yf h,yf h]
    .rw[ye h,ye h];grind
   .exact⟨f' k',g' i,s',2*s'+2,rfl,rfl,a.1,(?Iu).1,a.2,(?Iu).2,?A,?A,?Bx⟩
   .refine⟨_,f' k'*g' i,s'+1,s'+(2*s'+2),rfl,?_,zn,ZB a.1 (?Iu).1,zs,K7 a.2 (?Iu).2,?A,?A,?Bx⟩;dsimp only;by_cases h:i=k'
    .rw[yf h,yf h,h,hg];congr 1;grind
    .rw[ye h,ye h]
   .rfl
   .exact zw
  .unfold ka;rw[yd,iz,YT];rfl
variable (P w K mg base) in
abbrev BQ:Prop:=OkF P w K mg base CX0 37 "solved_rows" ["ways", "ends"] (spP K 2 GA)
theorem xm (z:?AM)(d:Yt K mg "solved_rows" QE ["ways", "ends"])(UV:D8 P w K mg base)(B0:D5 P w K mg base):BQ P w K mg base:=by
 refine YS d JP rfl fun f cdv A outer s H E hr ds r hC B hB=>?_;obtain⟨n,m,s',W,B',rfl,rfl,⟨hn,hm,gW,ge,hb⟩,hp⟩:=hC;have G0:=mz gW ge;have pE:=Bh (B:=B') hp;refine bS (i:=2) (SX:=yo QE) (XN:=?tA) (N:=["k", "ways", "ends"]) (nt:=1) (caps:=[0,1]) (pre:=(fun i=>tb i fun r=>shR (n+m) (wM n W B' r)))  ⟨rfl,?E,?E,?E,rfl,?E⟩ JP.nd rfl (.inl rfl)  (zS (n:=n) z.range rfl (Zp z.len rfl (pqc 1 rfl)) ?_ ?_) ?_ ?_ ?_ ?_
 .rw[YT]
 .lia
 .intro i hi;rw[jm] at hi;rw[YT];unfold sizeLine;lia
 .rfl
 .intro c i d hd;obtain⟨hi,rfl⟩:=zu hd;rw[qp];refine⟨_,(Yl (i:=0) (show List.Nodup (α:=Str) ["k", "ways", "ends"] by decide +kernel) rfl (.inl rfl)),(Sub.set rfl),.inl ⟨shR (n+m) (wM n W B' i),zU,(zC (eQ (PF3.p (vD z.list rfl (JL (d:=shR n (W i)) (pqc 1 rfl) (pq 0 rfl) ?_) (.inl rfl))) (PF3.p (vD z.list rfl (JL (d:=shR m (B' i)) (pqc 2 rfl) (pq 0 rfl) ?_) (.inl rfl))) ?_) ?_),?_⟩⟩
  .exact ua hi
  .exact ua hi
  .rw[YT,YT];unfold sizeLine;lia
  .exact congrArg D.lst Go
  .exact zw
 refine jF PassesOwn.never rfl (zS (n:=n) z.range rfl (Zp z.len rfl (pqc 1 rfl)) ?_ ?_) (fun i Γ _=>∃ a b,Γ=[some (shM n n W),some (shM n m B'),some (shM n (n+m) (EK ?CO i)),a,b]) ?_ ?_ ?_
 .rw[YT]
 .lia
 .refine⟨none,none,?_⟩;rw[jm];rfl
 .rintro k d Γ Ω hd ⟨a,b,rfl⟩;obtain⟨hk,rfl⟩:=zu hd;rw[qp];have Gk:=G0.at (jA n m) k ?A fun j hj=>pE j ?A;have hs:4*sK s' k+3<=big:=yU (show sK s' (k+1)<=sK s' n from Wh ?A) hb;refine⟨_,(Yl (i:=3) JP.nd rfl (.inr rfl)),?_⟩;refine Y2 (i:=4) JP.nd rfl (.inr rfl) (Yp (d:=shR (n+m) (fun j=>if j=k then 0 else EK ?CO k k j / (1 - EK ?CO k k k))) UV ?A2 rfl (yc (JL (d:=shR (n+m) (EK ?CO k k)) (pq 2 rfl) (pqc 3 rfl) ?_) (yc (pqc 3 rfl) yr)) ?_) ?_
  .exact ua hk
  .exact⟨n+m,k,sK s' k,EK ?CO k k,rfl,rfl,?A,?A,fun j hj=>?LX,hs,pE k hk⟩
  refine bS (i:=2) (SX:=yo QE) (XN:=?tA) (N:=["place", "row", "k", "found"]) (nt:=2) (caps:=[3,4]) (pre:=(fun i=>tb i fun r=>shR (n+m) (KH (EK ?CO k) k r)))  ⟨rfl,?E,?E,?E,rfl,?E⟩ JP.nd rfl (.inl rfl)  (BV z.enumerate rfl (pq 2 rfl)) ?_ ?_ ?_ ?_
  .intro i hi;unfold uv at hi;rw[J7,YT] at hi;rw[YT];unfold sizeLine;lia
  .rfl
  .intro c i d hd;unfold uv at hd;rw[oq] at hd;have hi:i<n:=by
    have:=(?Gs).1
    rwa [YT] at this
   rw[zg hi] at hd;cases hd;refine⟨_,(vo rfl (qh (Yl (i:=0) (show List.Nodup (α:=Str) ["place", "row", "k", "found"] by decide +kernel) rfl (.inl rfl)) (qh (Yl (i:=1) (show List.Nodup (α:=Str) ["place", "row", "k", "found"] by decide +kernel) rfl (.inl rfl)) zD))),(Sub.trans (Sub.set rfl) (Sub.set rfl)),.inl ⟨shR (n+m) ?KD,zU,(mU (d:=shR (n+m) ?KD) (qI (KQ (pq 0 rfl) (pqc 2 rfl))) (fun hc=>(zC (pqc 3 rfl) ?_)) (fun hc=>(zC (Yp (d:=shR (n+m) ?KD) B0 ?A2 rfl (yc (pq 1 rfl) (yc (pqc 2 rfl) (yc (pqc 3 rfl) yr))) ?_) ?_))),?_⟩⟩
   .have hc:=of_decide_eq_true hc;have hc:i=k:=by lia
    subst hc;refine Kj fun j hj=>?_;unfold KH;rw[yf rfl]
   .have hc:=of_decide_eq_false hc;have hc:¬ i=k:=by lia
    refine⟨n+m,k,sK s' k,EK ?CO k i,_,rfl,?_,?A,?A,fun j hj=>Gk i j hi hj,fun j hj=>?_,hs,yf rfl⟩
    .refine Kj fun j hj=>?_;unfold KH;rw[ye hc];by_cases h:j=k
     .rw[yf h,yf h]
     .rw[ye h,ye h,ye h]
    .have x:=(Gk.step hk ?A (pE k hk)) k j hk hj;dsimp only;by_cases h:j=k
     .rw[yf h];exact⟨?B,?M3⟩
     .rw[ye h];exact⟨uz (?LX).1 (kG (pE k hk)),(xq (?LX).2 (iZ gU (Gk k k hk ?A).2) (kG (pE k hk))).mono ?A⟩
   .rfl
   .exact zw
  refine ?B2;unfold uv;rw[J7,YT];exact⟨_,_,rfl⟩
 .rintro Γ Ω ⟨a,b,rfl⟩;rw[jm];refine qH (PF3.p (Jb (SX:=yo QE) (XN:=?tA) (N:=["row", "ends"]) (nt:=1) (caps:=[1]) (pre:=(fun i=>tb i fun r=>shR m (fun j=>EK ?CO n r (n+j)))) ⟨rfl,?E,?E,?E,rfl,?E⟩ (QH (pq 2 rfl)) ?_ ?_ ?_)) ?_
  .intro i hi;rw[YT] at hi ⊢;unfold sizeLine;lia
  .rfl
  .intro c i d hd;have hi:i<n:=by
    have:=(?Gs).1
    rwa [YT] at this
   rw[zg hi] at hd;cases hd;refine⟨_,(Yl (i:=0) (show List.Nodup (α:=Str) ["row", "ends"] by decide +kernel) rfl (.inl rfl)),(Sub.set rfl),.inl ⟨shR m (fun j=>EK ?CO n i (n+j)),zU,(zC (PF3.p (ko (pq 0 rfl) (VA (Zp z.len rfl (pqc 1 rfl))) VL)) ?_),?_⟩⟩
   .rw[YT,xj ?qR,DG];rfl
   .exact zw
  .rw[YT];rfl
end
end Law
namespace L3
open PySem PySem.Spec PySem.Calls PyProof.Rows L2
section
theorem aG (hu:?O)(h:V3 X B o Γ Ω fun d Ω1=>∃ l,d=.raw ?Bh/\V3 X B i Γ Ω1 fun di Ω2=>∃ ks kvs e,di=kD ks/\?zL∈Ω2/\atD kvs ks=some e/\R e Ω2)(hs:CS i:=by exact ?yV):V3 X B ?Fr Γ Ω R:=fun F σ H S pins s I=>by
 refine lJ PySem.F.slot_dict_getitem.lookup hs (thn ?KA fun u s1 ⟨x,H1,I1,rx,d,Ω1,F1,S1,f1,i1,l,e1,h1⟩=>thn ?JZ fun iv s2 ⟨y,H2,I2,ry,di,Ω2,F2,S2,f2,i2,ks,kvs,e,e2,m,e3,q⟩=>?_);subst e1 e2;cases isR i1;cases rx;obtain⟨fa,o',ha,ho⟩:=S2.own _ m;obtain⟨xs,rfl,dp⟩:=ho F2 ?AE;obtain⟨c,_,rfl,_⟩:=isT i2;cases ry;obtain⟨h0,dd⟩:=Wk I2 ha (dp.mono S2.fh);rcases dp.at (k:=ks) with ⟨_,z⟩|⟨p,d',v,z1,z2,r,iv⟩
 .rw[e3] at z;cases z
 .rw[e3] at z2;cases z2;refine⟨?_,wpAny_getItem_heap ?kQ (ub I2 (i2.mono S2.fh)) dd z1 ⟨v,H2,I2.tok _,r,e,Ω2,F2,S2,?Cn,iv,q⟩⟩;obtain⟨ob,_,_,g1,g2,_⟩:=dd;exact⟨ob,g1,g2.1⟩
end
def Gf (K:?A1)(n:Nat)(Cc:Addr)(C0:?zM)(C:?wW):Sp:=fun vs H Q _=>∃ (a:Addr) (us:List V) (ds:List D) (F:Hp) (dx:Addr),vs=.ref a::us/\ds.length+1=n/\Yh F H/\F a=none/\H a=some (.ins Cc dx [])/\IsL K F ds us/\C0 ds/\
 ∀ r,C ds r->∀ (H' F':Hp) (dx':Addr) (xs:List V),Yh F F'->Yh F' H'->?uX->?kH->F' a=none->H' a=some (.ins Cc dx' (r.1.zip xs))->r.1.length=xs.length->IsL K F' r.2 xs->Q .non H'
section
theorem DM(ok:OkI X.prog X.w X.K X.mg X.base CX0 k x Cc ps (Gf X.K n Cc C0 C))(hr:?vL)(hg:?Ai)(ha:?yT)(h0:C0 ds)(h:∀ r,C ds r->R (.obj Cc r.1 r.2) Ω)(hn:?vQ:=by rfl)(hdb:?L:=by decide)
  (he:?T:=by rfl) (hpl:?zA:=by rfl):?HU:=fun F σ H S pins s I=>by
 obtain⟨f,fd,Fn,M,hm,hb⟩:=ok;refine ?tX;rw[yM];have f1:F1 a=none:=p1.fh.free ha';have sm:Yh H1 (upd (upd H1 dx (.own a)) a (.ins Cc dx [])):=fun b u e1=>by
  rw[yR (Yo e1 ha'),yR (Yo e1 hdx)];exact e1
 refine⟨a,vs,ds,F1,dx,rfl,hn,p1.fh.trans sm,f1,yX,i1,h0,fun r hC H' F' dx' xs g1 g2 g3 g4 g5 g6 g7 g8=>⟨rfl,?_⟩⟩;have pu:Pur F1 H1 F' H':=by
  refine⟨g1,g2,fun b u e1=>?N8,fun b e1=>?_⟩;rcases g4 b e1 with z|z
  .exact ?BY
  .exact .inr (sm.free z)
 obtain⟨pf,w⟩:=WZ pu ha' g5 g6;refine⟨.obj Cc r.1 r.2,Ω,_,S.pur ?La,(?La).ff,?_,h r hC⟩;simp only[Is];exact ?Mv
end
section
end
section
theorem Bi(ok:?MR)(c:?E3)(hr:?Am)(ho:V3 X B o Γ Ω fun q Ω1=>∃ fs gs d,q=.obj Cc fs gs/\m∉fs/\C [.obj Cc fs gs] d/\R d Ω1)
  (ht:eval ?yQ X.env=(do
   let ov ←eval o X.env
   standAt apos.atName
   let ?yJ ←holding [ov] (getMethod ov m pl)
   callWith pos f first ?wV ?zZ):=by rfl):V3 X B ?yQ Γ Ω R:=fun F σ H S pins s I=>by
 obtain⟨f,fd,Fn,hM,hb⟩:=ok;refine WW (pl:=pl) jl c hM Fn hr hb .nil kM ht pins s σ H _ I ((?KV).mono fun v H1 ⟨q,Ω1,F1,S1,f1,i1,fs,gs,d,e1,hm,hC,r⟩=>?_);subst e1;obtain⟨a,dx,xs,rfl,h1,hl,il⟩:=isO i1;refine⟨a,dx,_,rfl,S1.fh _ _ h1,ZC hm,?_⟩;exact⟨_,d,F1,hC,rfl,S1.fh,?Jx,fun v' H3 F3 p3 i3=>⟨d,Ω1,F3,S1.pur p3,f1.trans p3.ff,i3,r⟩⟩
theorem sx (hm:X.mg "tuple" = none)(hg:Gl X "tuple")(h:V3 X B a Γ Ω fun q Ω1=>∃ ds,q=.lst ds/\R ?CA Ω1)(he:?zG:=by rfl):V3 X B (.Call (.Name "tuple" p) [a] [] pos) Γ Ω R:=fun F σ H S pins s I=>
 X1 Xp hg hm rW (zY jl Vs he) ?B ?B he (by rfl) pins s σ H _ I ((?AP).mono fun x H1 ⟨q,Ω1,F1,S1,f1,i1,ds,e1,r⟩=>by
  subst e1;obtain⟨l,xs,rfl,s1,j1⟩:=ze i1;exact⟨l,xs,rfl,.inl ⟨?IE,fun q hq=>⟨?CA,Ω1,_,S1.pur ?Ej,f1.trans (?Ej).ff,Is.tupI ?Dt (j1.mono (?Ej).ff),r⟩⟩⟩)
theorem GF (h:VL3 X B es Γ Ω fun ds Ω1=>ds.length<=sizeLine/\R ?BP Ω1):V3 X B ?IH Γ Ω R:=fun F σ H S pins s I=>
 lA iS pins s σ H _ I ((?AP).mono fun xs H1 ⟨ds,Ω1,F1,S1,f1,i1,hz,r⟩=>⟨?xE,fun p hp=>by
  have S2:Sat X.K B Γ ((p,?B7)::Ω1) F1 σ (upd H1 p (.lst xs)):=S1.new (Pur.layOwn S1.fh hp) hp (S1.fh.free hp) yX fun F2 e=>⟨xs,rfl,i1.mono e⟩
  obtain⟨F2,S3,f2,i2⟩:=S2.freeze;exact⟨?BP,Ω1,F2,S3,?Cn,i2,r⟩⟩)
end
section
variable {X:Cx}{B:Bs}{Γ:Ga}{Ω:Om}{o a e:Expr}{es:?AW}{k n:Nat}{Cc:Addr}{m:Str}{ps:?A0}{pos apos p:Pos}{R:?X}{ds:?A7}
end
end L3
namespace PySem
open Sem (wp)
section
variable {prog:?A6}{w:?A5}{K:Type}[DecidableEq K]{knd:?PZ}{A:?Ad}{E:?M}{s:?AI}
theorem Uf {d a:Addr}{xs:List (K×Addr×Value)}{k:K}{v:?AK}{Q:?M}(hu:knd.room A)(hkey:knd.is s.heap k a)(hm:s.heap.DictOfH knd d xs)
  (hsome:∀ p,atKey xs k=some p->Q p.2 {s with toks:=?qN})
  (hnone:atKey xs k=none->∀ h',h'.DictOfH knd d (storedH xs k a v)->Heap.SameBut d s.heap h'->Q v {s with heap:=h',toks:=?qN})
  (hsz:xs.length<=sizeLine):wpAny ?AG A (dictSetDefault d ?AB v) Q E s:=by
 obtain⟨o,es,ep,ho,hc,hd,he,his,hn⟩:=hm;unfold dictSetDefault;refine YA (ya (knd.pyHash hu hkey (ya (wpAny_dictFind_heap (s:={s with toks:=?qN}) hu hkey ho hd he his hn ?_ ?_))))
 .intro hno;have hat:=atKey_none_of_get hno;have hnot:k∉xs.map ?C:=not_mem_keys_of_get hno;refine ya (wpAny_rule (ya (wpAny_updateDictKeys (hz:=by have e:=size_of_entries he;lia) (s:={s with toks:=?qN}) ho hd (yj (hnone hat _ ⟨_,_,ep+1,Heap.get?_update_self _ ho (Obj.isFreed_of_dict ?Ng),
   hc.mapDictKeys _,?Ng,?_,?_,?_⟩ ?vC)))))
  .rw[storedH_new hat];simp[he,entryOfKey]
  .rw[storedH_new hat];intro x hx;rcases Yj.mp hx with hx|hx
   .exact knd.keeps (his x hx) ho hd ?vC
   .simp only[yy] at hx;subst hx;exact knd.keeps hkey ho hd ?vC
  .rw[storedH_new hat,yk,Ye];refine⟨hn,by simp,fun x hx y hy=>?_⟩;simp only[yt,ji,yy] at hy;subst hy;exact fun e=>hnot (e▸hx)
 .intro j p hj;refine ya (wpAny_dictEntries (s:={s with toks:=?qN}) ho hd ?_);rw[entry_at he j,hj];exact ya (wpAny_rule (yj (hsome p (atKey_of_get hn hj))))
theorem uR (knd:?PZ)(d a:Addr)(hd:(d==sysModules)=false)(v:?AK) :
  MeetsIn prog w (Builtin.«dict.setdefault» ⟨[.ref d,.ref a,v],[]⟩) (fun A R s=>knd.room A.in1/\∃ k xs,knd.is s.heap k a/\s.heap.DictOfH knd d xs/\xs.length<=sizeLine/\
   (∀ p,atKey xs k=some p->R (.ok (.ret p.2)) {s with toks:=?qN})/\
   (atKey xs k=none->∀ h',h'.DictOfH knd d (storedH xs k a v)->Heap.SameBut d s.heap h'->R (.ok (.ret v)) {s with heap:=h',toks:=?qN})):=
 .of_wp fun A R s ⟨hu,k,xs,hkey,hm,hz,h1,h2⟩=>by
  unfold Builtin.«dict.setdefault»;refine ya ?_;unfold Builtin.Dict.keyAndDefault;refine ya ?Mw;show wpAny _ _ (pure (d,Value.ref a,?CY)) _ _ s;refine yj ?_;show wpAny _ _ (if (d==sysModules)=true then _ else (dictSetDefault d ?AB v >>= _)) _ _ s;rw[ye (by rw[hd];exact yV)];exact ya (Uf (hsz:=hz) hu hkey hm (fun p hp=>yj ⟨_,rfl,h1 p hp⟩) fun hn h' hm' hs'=>yj ⟨v,rfl,h2 hn h' hm' hs'⟩)
end
end PySem
namespace L3
open PySem PySem.Spec PySem.Calls PyProof.Rows L2
theorem Sat.addAt {K:?A1}{B:Bs}{Γ:Ga}{Ω:Om}{F:Hp}{σ:?AY}{H:Hp}{a:Addr}{w:Ow}(S:?BE)(m:(a,w)∈Ω):∃ o,ZW Ω F H a=some o/\w F o:=by
 obtain⟨_,o,h1,h2⟩:=S.own _ m;refine⟨o,?_,h2 F ?AE⟩;unfold ZW;rw[yf (yn.mpr ⟨_,m,rfl⟩)];exact h1
section
variable {X:Cx}{B:Bs}{Γ:Ga}{Ω:Om}{E:E3}{rest:?Aw}{a o e f:Expr}{es:?AW}{d:D}{ds:?A7}{pos apos cpos p:Pos}{R:?X}
theorem uW {l:Addr}{kvs:?zI}{pins:?Q}{σ:?AY}{F H:Hp}{s:?AI}(S:?HD)(I:?A8)(m:?zL∈Ω):∃ xs,H l=some ?Dk/\DP X.K F kvs xs/\(l==sysModules)=false/\s.heap.DictOfH ?GA l xs:=by
 obtain⟨fa,o',ha,ho⟩:=S.own _ m;obtain⟨xs,rfl,dp⟩:=ho F ?AE;obtain⟨h0,dd⟩:=Wk I ha (dp.mono S.fh);exact⟨xs,ha,dp,h0,dd⟩
theorem Ws {h:Heap}{l:Addr}{kn:HeapKind X.prog X.w ?Az}{xs:?wX}(dd:h.DictOfH kn l xs):∀ b,Value.ref l=.ref b->∃ ob,h.get? b=some ob/\ob.dict=none:=fun b q=>by
 cases q;obtain⟨ob,_,_,h1,h2,_⟩:=dd;exact⟨ob,h1,h2.2.1⟩
theorem FM (hu:?O)(h:V3 X B o Γ Ω fun dq Ω1=>∃ l,dq=.raw ?Bh/\(∃ kvs,?zL∈Ω1)/\V3 X B e Γ Ω1 fun di Ω2=>∃ ks,di=kD ks/\V3 X B f Γ Ω2 fun df Ω3=>∃ kvs,?zL∈Ω3/\R ((?E2).getD df) Ω3)
  (m:M2 X o "get" apos e f cpos:=by exact ?HE):?PB:=fun F σ H S pins s I=>by
 refine wpAny_Call_method m.base m.few m.line PySem.F.plainAttrs_dict PySem.F.slot_dict_get PySem.F.type_dict_get (thn ?KA fun u s1 ⟨x,H1,I1,rx,dq,Ω1,F1,S1,f1,i1,l,e1,⟨kv0,m1⟩,h1⟩=>?_);subst e1;cases isR i1;cases rx;obtain⟨xs0,_,_,h00,dd0⟩:=uW S1 I1 m1;refine ?NQ;rw[m.trees];refine Calls.callWith_builtin rfl (Calls.evalArgs_plain (Calls.spliced_cons (thn ?JZ fun iv s2 ⟨y,H2,I2,ry,di,Ω2,F2,S2,f2,i2,ks,e2,h2⟩=>
  Calls.spliced_cons (thn ?Ne fun fv s3 ⟨z,H3,I3,rz,df,Ω3,F3,S3,f3,i3,kvs,m3,r⟩=>?Js))))
 subst e2;obtain⟨c,_,rfl,_⟩:=isT i2;cases ry;obtain⟨xs,ha,dp,h0,dd⟩:=uW S3 I3 m3;refine call_meetsIn PySem.F.slot_dict_get dd.typeIs PySem.F.entry_dict_get ?JL (meetsH_dict_get_default ?GA l c h0 fv) ⟨show X.A.units+1+1<cLine by lia,ks,xs,ub I3 ((?Ly).mono S3.fh),dd,?_⟩;rcases dp.at (k:=ks) with ⟨z1,z2⟩|⟨p,d',v,z1,z2,rv,iv⟩
 .rw[z1];rw[z2] at r;exact⟨z,H3,I3.tok _,rz,df,Ω3,F3,S3,?EZ,i3,r⟩
 .rw[z1];rw[z2] at r;exact⟨v,H3,I3.tok _,rv,d',Ω3,F3,S3,?EZ,iv,r⟩
theorem oF (hu:?O)(h:V3 X B o Γ Ω fun dq Ω1=>∃ l,dq=.raw ?Bh/\(∃ kvs,?zL∈Ω1)/\V3 X B e Γ Ω1 fun di Ω2=>∃ ks,di=kD ks/\V3 X B f Γ Ω2 fun df Ω3=>∃ kvs Ω4,Ω3.Perm (?zL::Ω4)/\kvs.length<sizeLine/\
   (∀ d,atD kvs ks=some d->R d (?zL::Ω4))/\(atD kvs ks=none->R df ((l,Jz X.prog X.w X.K l (kvs++[(ks,df)]))::Ω4)))
  (m:M2 X o "setdefault" apos e f cpos:=by exact ?HE):V3 X B (.Call (.Attribute o "setdefault" apos) [e,f] [] cpos) Γ Ω R:=fun F σ H S pins s I=>by
 refine wpAny_Call_method m.base m.few m.line PySem.F.plainAttrs_dict PySem.F.slot_dict_setdefault PySem.F.type_dict_setdefault (thn ?KA fun u s1 ⟨x,H1,I1,rx,dq,Ω1,F1,S1,f1,i1,l,e1,⟨kv0,m1⟩,h1⟩=>?_);subst e1;cases isR i1;cases rx;obtain⟨xs0,_,_,h00,dd0⟩:=uW S1 I1 m1;refine ?NQ;rw[m.trees];refine Calls.callWith_builtin rfl (Calls.evalArgs_plain (Calls.spliced_cons (thn ?JZ fun iv s2 ⟨y,H2,I2,ry,di,Ω2,F2,S2,f2,i2,ks,e2,h2⟩=>
  Calls.spliced_cons (thn ?Ne fun fv s3 ⟨z,H3,I3,rz,df,Ω3,F3,S3,f3,i3,kvs,Ω4,pm,hz,r1,r2⟩=>?Js))))
 subst e2;obtain⟨c,_,rfl,_⟩:=isT i2;cases ry;have S4:=S3.perm pm.symm;obtain⟨xs,ha,dp,h0,dd⟩:=uW S4 I3 (l:=l) (kvs:=kvs) yh;have hx:xs.length<=sizeLine:=by rw[←Paired.length dp];lia
 refine call_meetsIn PySem.F.slot_dict_setdefault dd.typeIs PySem.F.entry_dict_setdefault (PySem.F.args_dict_setdefault_3 _ _ _) (uR ?GA l c h0 fv) ⟨show X.A.units+1+1<cLine by lia,ks,xs,ub I3 ((?Ly).mono S3.fh),dd,hx,fun p hp=>?_,fun hn h' dd' hs=>?_⟩
 .rcases dp.at (k:=ks) with ⟨z1,z2⟩|⟨p',d',v,z1,z2,rv,iv⟩
  .rw[hp] at z1;cases z1
  .rw[hp] at z1;cases z1;exact⟨v,H3,I3.tok _,rv,d',_,F3,S4,?EZ,iv,r1 _ z2⟩
 .rcases dp.at (k:=ks) with ⟨z1,z2⟩|⟨p',d',v,z1,z2,rv,iv⟩
  .have en:wB kvs ks df=kvs++[(ks,df)]:=by unfold wB;rw[z2];rfl
   obtain⟨o',es',ep,y1,y2,y3,y4,_,y5⟩:=dd';have I4:=I3.write (x:=l) (e:=l) (t':=s3.toks+(?GA).draws ks) (by rw[ha];exact ?DT) ?A3 (fun c q hb z=>(hs.2 c hb).trans z) ⟨o',y1⟩ (bz ⟨h0,o',es',ep,y1,y2,y3,y4,y5⟩);refine⟨z,_,I4,rz,df,_,F3,?_,?EZ,i3,r2 z2⟩;rw[←en];exact S4.turn fun F5 e5=>⟨_,rfl,DP.put (dp.mono e5) ((?Ly).mono e5) rz (i3.mono e5)⟩
  .rw[hn] at z1;cases z1
theorem pT (ho:V3 X B o Γ Ω fun dq Ω1=>∃ l ds0,dq=.raw ?Bh/\(l,YW X.K ds0)∈Ω1/\V3 X B e Γ Ω1 fun d Ω2=>∃ ds Ω3,Ω2.Perm ((l,?B7)::Ω3)/\ds.length<sizeLine/\W3 X B rest Γ ((l,YW X.K (ds++[d]))::Ω3) E)
  (hs:∀ {t:TE},PE X ?kE t->PS X (.Expr ?kE pos) (fK t):=by exact fun h=>Kq h)
  (hst:?wO:=by rfl)
  (hp:∀ {to:TE} {ta:TA},PE X o to->PA X [e] ta->PE X ?kE (tBM X.K "list" w6 to ta):=by exact fun a b=>?J8) :
  W3 X B (.Expr ?kE pos::rest) Γ Ω E:=fun F σ H S pins s I=>by
 refine qd (hs (hp jl (zY jl Vs hst))) Qg pins s σ H _ I ((?KV).mono fun v H1 ⟨dq,Ω1,F1,S1,f1,i1,l,ds0,e1,m1,h1⟩=>?_);subst e1;cases isR i1;obtain⟨fa,o0,ha,ho0⟩:=S1.own _ m1;obtain⟨xs0,rfl,il0⟩:=ho0 F1 ?AE;refine⟨?HS,(?Ba).mono fun y H2 ⟨d,Ω2,F2,S2',f2,i2,ds,Ω3,pm,hz,h2⟩=>?_⟩;have S2:=S2'.perm pm.symm;obtain⟨fa',o',ha',ho'⟩:=S2.own (l,?B7) (by simp);obtain⟨xs,rfl,il⟩:=ho' F2 ?AE;exact⟨l,xs,y,rfl,rfl,ha',by rw[il.len];exact hz,qF ?Cn (h2 F2 σ _ (S2.turn fun F3 e3=>⟨_,rfl,(il.mono e3).append (IsL.cons (i2.mono e3) IsL.nil)⟩))⟩
theorem l8 {L:Bool}{n k:Nat}{C:?H}{x:Str}{ps:?A0}(ok:OkF X.prog X.w X.K X.mg X.base CX0 k x ps (spP X.K 1 C))(hr:?Am)(hg:?Ai)(h:V3 X B e Γ Ω fun dq Ω1=>∃ l ds d,dq=.raw ?Bh/\(l,?B7)∈Ω1/\uc L Ω1/\C [.lst ds] d/\jL L d=true/\R d Ω1)(hdb:?L:=by decide)
  (he:?wO:=by rfl) (hpl:(?wV).any ?C=false:=by rfl):V3 X B (.Call ?FG [e] [] pos) Γ Ω R:=fun F σ H S pins s I=>
 wg ok hr hg (zY jl Vs he) hdb he hpl pins s σ H _ I ((?AP).mono fun v H1 ⟨dq,Ω1,F1,S1,f1,i1,l,ds,d,e1,m,hd,hC,hs,r⟩=>by
  subst e1;cases isR i1;obtain⟨o',h1,xs,rfl,il⟩:=S1.addAt m;show spP X.K 1 C ([V.ref l]++[]) H1 ?PA E0;rw[yM];exact⟨[.lst ds],d,ZW Ω1 F1 H1,hC,rfl,S1.addSub,IsL.cons (Is.lstI (.inl h1) (il.mono S1.addSame)) IsL.nil,fun v H2 F2 p2 i2=>⟨d,Ω1,KO Ω1 F2,S1.pur (S1.back p2),f1.trans (S1.back p2).ff,bP (S1.hard hd p2) hs i2,r⟩⟩)
end
section
variable {X:Cx}{B:Bs}{Γ:Ga}{Ω:Om}{a b:Expr}{pos:Pos}{d d':D}{ds es:?A7}
end
end L3
namespace PySem
open Sem (wp)
section
variable {prog:?A6}{w:?A5}{A:?Ad}{E:?M}{s:?AI}
end
namespace RV
end RV
section
variable {prog:?A6}{w:?A5}{A:?Ad}{E:?M}{s:?AI}
end
section
variable {prog:?A6}{w:?A5}{A:?Ad}{E:?M}{s:?AI}{R:?xI}{I S:Addr}{T:?Bv}{n:Nat}{St:Nat->Shared->Prop}{Fin':Shared->Prop}
end
end PySem
namespace L2
open PySem PySem.Spec PySem.Calls PyProof.Rows
end L2
namespace L3
open PySem PySem.Spec PySem.Calls PyProof.Rows L2
section
variable {X:Cx}{Γ:Ga}{ds es:?A7}{pos p:Pos}{a b:Expr}
end
section
variable {X:Cx}{pins:?Q}{σ:?AY}{F H1:Hp}{I S:Addr}{T:?Bv}{fp:?Ar}{ws:?A7}{ZS:Nat->Heap->Prop}
end
section
variable {X:Cx}{Γ:Ga}{ds es:?A7}{pos p pos' p':Pos}{a b:Expr}
theorem d9:bootBuiltins "reversed" = some (.type "reversed"):=by decide +kernel
end
end L3
namespace L2
open PySem PySem.Spec PySem.Calls PyProof.Rows
def Ic (K:?A1)(a:Addr)(n:Nat):It:=
 ⟨fun i H=>∃ xs,SqL K H a xs/\xs.length=n/\i<n,fun i H x H'=>H'=H/\∀ xs,SqL K H a xs->xs[n - 1 - i]?=some x,fun i H=>n<=i⟩
theorem sD {P:?A6}{w:?A5}{K:?A1}{tg:Expr}(a it:Addr)(n:Nat):Turn P w K tg (Ic K a n) [it] it (fun i h=>i<=n/\h.IsRevIter it a ((n:Int) - 1 - (i:Int))) where
 mem:=by simp
 obj:=fun i h st b hb=>by
  have e:b=it:=by simpa using hb
  subst e;obtain⟨_,o,e,c,d⟩:=st;exact⟨o,e,fun v z=>by rw[d] at z;cases z⟩
 keep:=fun i h h' st k=>⟨st.1,st.2.at fun o e=>k it (by simp) o e⟩
 item:=by
  intro X hP hw hK hc i pins s σ H E I hf st hg;subst hP hw hK;obtain⟨xs,hq,hn,hi⟩:=hg;obtain⟨its,rv,p,hz⟩:=I.list hq;obtain⟨x,hx⟩:∃ x,xs[n - 1 - i]?=some x:=⟨_,yl ?A⟩
  obtain⟨u,hu,ru⟩:=rv.get hx;obtain⟨f0,f1,f2,f3,f4,f5⟩:=hf it (by simp)
  replace st:=st.2
  have e:(n:Int) - 1 - (i:Int)=((n - 1 - i:Nat):Int):=by lia
  rw[e] at st;refine wpAny_pyNext_rev_item st p.isList (x:=u) (by simpa using hu) fun h' st' sb=>?_;have I1:Inv X pins σ H {s with heap:=h'}:=I.turned (t':=?Ac) ?jJ f0 f1 f3 f4 f5;have e2:((n - 1 - i:Nat):Int) - 1=(n:Int) - 1 - ((i+1:Nat):Int):=by lia
  rw[e2] at st';obtain⟨o,e,c,d⟩:=id st';exact⟨u,rfl,eJ (s:={s with heap:=h'}) e c d ?B ⟨x,H,I1,ru,⟨rfl,fun ys hy=>?tG⟩,⟨hi,st'⟩,fun b hb=>?yG⟩⟩
 done:=by
  intro X hP hw hK hc i pins s σ H E I hf st hg;subst hP hw hK;obtain⟨f0,f1,f2,f3,f4,f5⟩:=hf it (by simp);obtain⟨hi,st⟩:=st;have hg':n<=i:=hg;have e:(n:Int) - 1 - (i:Int)=-1:=by lia
  rw[e] at st;exact wpAny_pyNext_rev_end ?Bs st fun h' eb=>?qF
 self:=fun _ _ _ _ _ st h=>wpAny_pyIter_revIter st.2 h
def Ld (K:?A1)(ta:TA):TI:=fun σ H R=>ta σ H fun vs H1=>∃ a xs,vs=[.ref a]/\SqL K H1 a xs/\R (Ic K a xs.length) H1
theorem E8 {X:Cx}{tg a:Expr}{ta:TA}{p pos:Pos}(hg:Gl X "reversed")(hm:X.mg "reversed" = none)(ha:PA X [a] ta)(hs:?zG:=by rfl):PI X tg (.Call (.Name "reversed" p) [a] [] pos) (Ld X.K ta):=by
 intro pins s σ H R I h;refine Call_ (Vv I hg hm L3.d9 (PyProof.Rows.callWith_type1 (thn ?Cf fun us s1 ⟨vs,H1,I1,r1,q1⟩=>?_) hs (by rfl)));obtain⟨l,xs,e,hl,q⟩:=q1;subst e;cases r1 with
 |cons r rr=>
  cases rr;cases r;obtain⟨its,rv,p1,_⟩:=I1.list hl;refine call_reversed_list p1.isList ?_;have hv:=rv.length;have ev:((its.toArray.size:Nat):Int) - 1=(xs.length:Int) - 1 - ((0:Nat):Int):=by simp;lia
  rw[ev];have g1:(s1.heap.push (revObj l ((xs.length:Int) - 1 - ((0:Nat):Int)))).IsRevIter s1.heap.objs.size l ((xs.length:Int) - 1 - ((0:Nat):Int)):=?Dh
  refine wpAny_pyIter_revIter g1 ?_;exact⟨?Ea,?jY,_,_,H1,rfl,I1.kept (t':=?Cy) fun b o e=>?At,sD l _ _,⟨YC _,g1⟩,fun b hb=>by
   have e:b=s1.heap.objs.size:=by simpa using hb
   subst e;exact ?Dg,q⟩
end L2
namespace L3
open PySem PySem.Spec PySem.Calls PyProof.Rows L2
section
variable {X:Cx}{B:Bs}{Γ:Ga}{Ω:Om}{tg a:Expr}{pos p:Pos}{RL:?yS}
theorem GC (hm:X.mg "reversed" = none)(hg:Gl X "reversed")(h:V3 X B a Γ Ω fun d Ω1=>∃ ds,d=.lst ds/\RL ds.reverse Ω1)(hs:?zG:=by rfl):IV3 X B tg (.Call (.Name "reversed" p) [a] [] pos) Γ Ω RL:=fun F σ H S pins s I=>
 E8 hg hm (zY jl Vs hs) hs pins s σ H _ I ((?AP).mono fun v H1 ⟨d,Ω1,F1,S1,f1,i1,ds,e1,r⟩=>by
  subst e1;obtain⟨l,xs,rfl,s1,j1⟩:=ze i1;have hl:=j1.len;refine⟨l,xs,rfl,?IE,ds.reverse,Ω1,F1,S1,f1,fun n F2 H2 e1 e2=>?kU,r⟩
  .have hn:n<ds.length:=by have:=(yi.mp w).1;simpa using this
   rw[List.getElem?_reverse hn] at w;obtain⟨x,hx,ix⟩:=j1.get w;refine⟨⟨xs,?yR,rfl,?A⟩,fun y H3 ⟨z,w'⟩=>?_⟩;subst z;have:=w' xs ?yR;rw[hl,hx] at this;cases this;exact ?Ff
  .rw[jG] at w;show xs.length<=n;lia)
end
end L3
namespace PySem
open Sem (wp)
def eC (h:Heap)(d:Addr)(es:?Eh)(ep:Nat):Prop:=∃ o,h.get? d=some o/\o.ExactDict/\o.data=.dict es ep
theorem eC.typeIs {s:?AI}{d:Addr}{es:?Eh}{ep:Nat}(x:?HY):s.TypeIs (.ref d) "dict" := let ⟨o,h1,h2,_⟩:=x;⟨o,h1,h2.1⟩
section
variable {prog:?A6}{w:?A5}{A:?Ad}{E:?M}{s:?AI}{d it:Addr}{es:?Eh}{ep i:Nat}
theorem lw {Q:?M}(hd:(d==sysModules)=false)(hm:?HY)
  (hQ:Q ?Ef {s with heap:=s.heap.push {cls:=.type "dict_keyiterator", data:=.fields #[.ref d,.int 0 0,.int es.size 0,.int ep 0]}}):wpAny ?AG A (pyIter (.ref d)) Q E s:=by
 obtain⟨o,ho,hc,hdat⟩:=id hm;refine wpAny_pyIter_slot hm.typeIs F.slot_dict_iter (qA F.slot_dict_iter hm.typeIs F.entry_dict_iter ?_ (F.args_dict_iter_1 _));unfold Builtin.«dict.__iter__» Builtin.Dict.dictSlotNone;refine ya (ya ?Mw);show wpAny _ _ (pure (Value.ref d)) _ _ s;refine yj ?_;show wpAny _ _ (Builtin.Dict.showsAll d >>= _) _ _ s;unfold Builtin.Dict.showsAll;rw[ye (by rw[hd];exact yV)];exact ya (yj (ya (wpAny_dictEntries ho hdat (ya (wpAny_dictEpoch ho hdat (ya (qe (yj ⟨_,rfl,"dict_keyiterator", _,⟨_,?CT,rfl⟩,F.slot_dict_keyiterator_next.lookup,hQ⟩))))))))
theorem h7 {e:DictEntry}{Q:Option Value->Shared->Prop}(hit:?Mx)(hm:?HY)(hx:es[i]?=some e)
  (hQ:∀ h',h'.IsKeyIter it d (i+1) es.size ep->Heap.SameBut it s.heap h'->Q (some e.key) {s with heap:=h'}):?ON:=by
 obtain⟨o,ho,hc,hd⟩:=id hit;obtain⟨od,hod,hcd,hdd⟩:=id hm;have hit':(s.heap.update it (Obj.mapFields (·.setIfInBounds 1 (rawInt ((i:Int)+1))))).IsKeyIter it d (i+1) es.size ep:=
  ⟨_,Heap.get?_update_self _ ho (Obj.isFreed_of_fields (Obj.data_mapFields hd _)),(Obj.cls_mapFields ..).trans hc,by rw[Obj.data_mapFields hd];simp[rawInt]⟩
 unfold pyNext;refine ya (wpAny_attempt (wpAny_callSpecial?_slot (name:=?xC) hit.typeIs F.slot_dict_keyiterator_next
  ?MK))
 refine ya (yj (ya (ya ?_)))
 first|refine ya (wpAny_typeNameOfWhole_keyiter hit.typeIs (yj ?_))|refine ya (wpAny_typeNameOf_keyiter hit.typeIs (yj ?_))
 refine ya ?O2;simp only[show Builtin.Dict_items.ownsTuple "dict_keyiterator" = false by decide,Y9,if_false];show wpAny _ _ (if (Value.ref d==Value.none)=true then _ else _) _ _ s;rw[ye (show ¬ ((Value.ref d==Value.none)=true) from yV)];refine ya (yj (ya ?NF));rw[ye (by simp)];refine ya (yj (ya ?NS));rw[ye (by simp)];refine yj ?_;simp only[show ¬ ((i:Int)<0) from by lia,if_false,Qz,hx];refine ya ?_
 first|refine ya (wpAny_typeNameOfWhole_keyiter hit.typeIs (yj ?_))|refine ya (wpAny_typeNameOf_keyiter hit.typeIs (yj ?_))
 refine ya (wpAny_isOneOf_keyiter hit.typeIs ?_);show wpAny _ _ (setField ?EP 1 (rawInt ((i:Int)+1)) >>= _) _ _ s;refine ya (wpAny_setField ho hd (by simp) (ya (YA ?_)));refine ya (wpAny_isOneOf_keyiter (s:={s with heap:=s.heap.update it (Obj.mapFields (·.setIfInBounds 1 (rawInt ((i:Int)+1))))}) hit'.typeIs ?_);show wpAny _ _ (pure e.key) _ _ _;exact yj (yj ⟨_,rfl,yj (hQ _ hit' ?vC)⟩)
theorem pZ {Q:Option Value->Shared->Prop}(hh:?yZ)(hit:?Mx)(hm:?HY)(hx:es.size<=i)
  (hQ:∀ h',Heap.ExtBut it s.heap h'->Q none {s with heap:=h'}):?ON:=by
 obtain⟨o,ho,hc,hd⟩:=id hit;obtain⟨od,hod,hcd,hdd⟩:=id hm;unfold pyNext;refine ya (wpAny_attempt (wpAny_callSpecial?_slot (name:=?xC) hit.typeIs F.slot_dict_keyiterator_next
  ?MK))
 refine ya (yj (ya (ya ?_)))
 first|refine ya (wpAny_typeNameOfWhole_keyiter hit.typeIs (yj ?_))|refine ya (wpAny_typeNameOf_keyiter hit.typeIs (yj ?_))
 refine ya ?O2;simp only[show Builtin.Dict_items.ownsTuple "dict_keyiterator" = false by decide,Y9,if_false];show wpAny _ _ (if (Value.ref d==Value.none)=true then _ else _) _ _ s;rw[ye (show ¬ ((Value.ref d==Value.none)=true) from yV)];refine ya (yj (ya ?NF));rw[ye (by simp)];refine ya (yj (ya ?NS));rw[ye (by simp)];refine yj ?_;simp only[show ¬ ((i:Int)<0) from by lia,if_false,Qz,Array.getElem?_eq_none hx];refine ya ?_
 first|refine ya (wpAny_typeNameOfWhole_keyiter hit.typeIs (yj ?_))|refine ya (wpAny_typeNameOf_keyiter hit.typeIs (yj ?_))
 show wpAny _ _ (setField ?EP 0 .none >>= _) _ _ s;refine ya (wpAny_setField ho hd (by simp) ?_);show wpAny _ _ (newExc (.type "StopIteration") [] >>= _) _ _ _;refine ya ?_;simp only[newExc,newTuple];refine ya (qe (ya (m:=firstArgMember _ _) (wpAny_of_eq (a:=Value.none) (by first|rfl|(simp only[firstArgMember];rfl)) (qe ?_ (by size_fits)))) (by size_fits));simp only[raiseNew];refine ya (wpAny_handled ?_);rw[show A.in1.handled=none from hh];refine ya (yj (wpAny_throw ?_));refine ya (wpAny_isInstance (T:="StopIteration") (b:=true) ⟨_,?CT,rfl⟩ isSubtype_stop ?_);exact yj (hQ _ (((?vC).extBut.push _).push _))
end
end PySem
namespace L2
open PySem PySem.Spec PySem.Calls PyProof.Rows
section
variable {X:Cx}{pins:?Q}{σ:St}{H:Hp}{s:?AI}{a:Addr}
def A3:HO->Bool
 |.ext _=>true
 |_=>false
theorem HOk.knownX {P:?A6}{w:?A5}{h:Heap}{u:HO}{o:Obj}(ok:?B4)(e:H a=some u)(d:A3 u=true)(ho:h.get? a=some o):HOk P w ?G3 h:=fun b v q=>by
 have nown:∀ c y,H c=some (.own y)->c≠a:=fun c y r z=>by subst z;rw[e] at r;cases r;cases d
 have ntup:∀ c xs,H c=some ?BN->c≠a:=fun c xs r z=>by subst z;rw[e] at r;cases r;cases d
 have st:∀ {b:Addr} {v:HO},qQ P w H h b v->qQ P w ?G3 h b v:=fun {b v} x=>x.stay (fun _ _ _ z=>z) (fun c z=>?tJ) fun c xs z=>by rw[yR (ntup c _ z)];exact z
 by_cases hb:b=a
 .subst hb;rw[yX] at q;cases q;exact⟨ho,st (ok _ _ e)⟩
 .rw[yR hb] at q;exact ?L2
theorem Inv.knownX {u:HO}{o:Obj}(I:?A8)(e:H a=some u)(d:A3 u=true)(ho:s.heap.get? a=some o):?Ow:=by
 have nn:∀ b,H b=none->upd H a ?BK b=none:=fun b z=>by
  rw[yR (fun y=>by subst y;rw[e] at z;cases z)];exact z
 refine⟨I.ok,I.os,?Cc,?xX,I.loc,?FV,?Ld,fun x c q=>?Jl,fun p hp=>?_,I.hok.knownX e d ho,I.len⟩
 .have z:=I.base.tups b xs q;rw[yR (fun y=>by subst y;rw[e] at z;cases z;cases d)];exact z
 .have z:=I.base.frzs b o' v q;rw[yR (fun y=>by subst y;rw[e] at z;cases z;cases d)];exact z
 .obtain⟨m,z⟩:=I.base.tbls b ps q;exact⟨m,by rw[yR (fun y=>by subst y;rw[e] at z;cases z;cases d)];exact z⟩
 .obtain⟨q1,q2,q3⟩:=I.pin p hp;exact ?Jt
end
def La (a:Addr)(o:Obj)(u:HO)(ks:?Ar):It:=
 ⟨fun i H=>H a=some ?BK/\i<ks.length,fun i H x H'=>H'=H/\∃ k,ks[i]?=some k/\x=.ref k,fun i H=>H a=some ?BK/\ks.length<=i⟩
theorem iQ {P:?A6}{w:?A5}{K:?A1}{tg:Expr}{a it:Addr}{o:Obj}{u:HO}{es:?Eh}{ep:Nat}{ks:?Ar}(hx:o.ExactDict)(hd:?jZ)(hk:es.toList.map (·.key)=ks.map Value.ref):Turn P w K tg (La a o u ks) [it] it (fun i h=>h.IsKeyIter it a i es.size ep) where
 mem:=by simp
 obj:=fun i h st b hb=>by
  have e:b=it:=by simpa using hb
  subst e;obtain⟨o,e,c,d⟩:=st;exact⟨o,e,fun v z=>by rw[d] at z;cases z⟩
 keep:=fun i h h' st k=>st.at fun o e=>k it (by simp) o e
 item:=by
  intro X hP hw hK hc i pins s σ H E I hf st hg;subst hP hw hK;obtain⟨ha,hi⟩:=hg;obtain⟨f0,f1,f2,f3,f4,f5⟩:=hf it (by simp);obtain⟨ho,_⟩:=(show qQ X.prog X.w H s.heap a ?BK from I.hok a _ ha)
  have hl:es.size=ks.length:=by have:=congrArg List.length hk;simpa using this
  have hx':es[i]?=some es[i]:=Array.getElem?_eq_getElem ?A;have ek:es[i].key=.ref ks[i]:=by
   have:=congrArg (·[i]?) hk;simp only[yz,Array.getElem?_toList,hx',yl hi,Option.map_some,Option.some.injEq] at this;exact this
  refine h7 st ⟨o,ho,hx,hd⟩ hx' fun h' st' sb=>?_;have I1:Inv X pins σ H {s with heap:=h'}:=I.turned (t':=?Ac) ?jJ f0 f1 f3 f4 f5;refine⟨_,rfl,letGo_keyiter st' ⟨.ref ks[i],H,I1,?_,⟨rfl,_,yl hi,rfl⟩,st',fun b hb=>?yG⟩⟩;exact ek
 done:=by
  intro X hP hw hK hc i pins s σ H E I hf st hg;subst hP hw hK;obtain⟨ha,hi⟩:=hg;obtain⟨f0,f1,f2,f3,f4,f5⟩:=hf it (by simp);obtain⟨ho,_⟩:=(show qQ X.prog X.w H s.heap a ?BK from I.hok a _ ha)
  have hl:es.size=ks.length:=by have:=congrArg List.length hk;simpa using this
  exact pZ ?Bs st ⟨o,ho,hx,hd⟩ ?A fun h' eb=>?qF
 self:=fun _ _ _ _ _ st h=>wpAny_pyIter_keyiter st h
end L2
namespace L3
open PySem PySem.Spec PySem.Calls PyProof.Rows L2
theorem av {α β:Type}{F:α->β->Prop}:∀ {l:List α} {m:List β} {n:Nat} {x:α} {y:β},Paired F l m->l[n]?=some x->m[n]?=some y->F x y
 |_,_,_,_,_,.nil,h,_=>by simp at h
 |_,_,0,_,_,.cons r _,h,h'=>by
  simp only[List.getElem?_cons_zero,Option.some.injEq] at h h';subst h h';exact r
 |_,_,n+1,_,_,.cons _ t,h,h'=>by
  simp only[List.getElem?_cons_succ] at h h';exact av t h h'
section
variable {X:Cx}{B:Bs}{Γ:Ga}{Ω:Om}{tg e:Expr}{RL:?yS}
theorem wS (h:V3 X B e Γ Ω fun d Ω1=>∃ ds,d=.lst ds/\RL ds Ω1):?HI:=fun F σ H S pins s I=>
 cP jl pins s σ H _ I ((?AP).mono fun v H1 ⟨d,Ω1,F1,S1,f1,i1,ds,e1,r⟩=>by
  subst e1;obtain⟨l,xs,rfl,s1,j1⟩:=ze i1;refine⟨l,rfl,⟨xs,?IE⟩,ds,Ω1,F1,S1,f1,fun n F2 H2 e1 e2=>?uD,r⟩;obtain⟨x,hx,ix⟩:=j1.get w;refine ?uQ;subst z;have:=w' xs ?yR;rw[hx] at this;cases this;exact ?Ff)
theorem CA {iter elt:Expr}{ifs:List Expr}{sc SX:Scope}{N XN:List Str}{nt:Nat}{caps:List Nat}{pos:Pos}{R:D->Om->Prop}(S:CompOk SX sc XN N nt caps)
  (h:IV3 X B tg iter Γ Ω fun ds Ω1=>∃ pre:Nat->List D,(∀ i,i<=ds.length->(pre i).length<sizeLine)/\pre 0=[]/\mD X sc N tg elt ifs (KJ nt caps Γ) ds pre/\R (.lst (pre ds.length)) Ω1)
  (hc:X.calm=true:=by rfl) (hX:X.env.scope=SX:=by rfl) (hN:X.N=XN:=by rfl) (hs:∀ x,foldedSetIterable iter X.env x=pure x:=by intro _;rfl):V3 X B (.ListComp elt [⟨tg,iter,ifs,0⟩] sc pos) Γ Ω R:=fun F σ H S0 pins s I=>by
 refine cC S CC (fun c=>iR) (fun c=>AJ) (fun c=>jl) hc hX hN hs pins s σ H _ I ((h F σ H S0).mono fun Jt H1 ⟨ds,Ω1,F1,S1,f1,wk,pre,hz,h0,step,r⟩ D hD c=>
  ⟨fun i m σ' ys H'=>i+m=ds.length/\∃ F',Pur F1 H1 F' H'/\F' D=none/\H' D=some (.lst ys)/\IsL X.K F' (pre i) ys/\Sl X.K F' (KJ nt caps Γ) σ',?_,?_⟩)
 .exact⟨ds.length,by lia,F1,Pur.layOwn S1.fh hD,S1.fh.free hD,yX,by rw[h0];exact IsL.nil,Sl.cap S1.sl⟩
 .rintro i m σ' ys H' ⟨hm,F',pu,fD,hH,il,sl'⟩;refine⟨hH,by rw[il.len];exact hz i (by lia),?_⟩;obtain⟨w1,w2⟩:=wk i F' H' pu.ff pu.fh;cases z:ds[i]? with
  |none=>
   have hl:ds.length<=i:=yE.mp z;have e:i=ds.length:=by lia
   subst e;have wf:Yh F' (upd F' D (.lst ys)):=fun b u q=>by rw[yR (Yo q fD)];exact q
   have P2:Pur F1 H1 (upd F' D (.lst ys)) H':=⟨pu.ff.trans wf,fun b u q=>by
    by_cases hb:b=D
    .subst hb;rw[yX] at q;cases q;exact hH
    .rw[yR hb] at q;exact pu.fh _ _ q,pu.hh,fun b q=>by
    by_cases hb:b=D
    .subst hb;exact .inr hD
    .rw[yR hb] at q;exact pu.new b q⟩
   exact .inl ⟨w2 hl,.lst (pre ds.length),Ω1,_,S1.pur P2,f1.trans P2.ff,Is.lstI (.inl yX) (il.mono wf),r⟩
  |some d=>
   have hl:i<ds.length:=(yi.mp z).1;obtain⟨go,y⟩:=w1 d z;obtain⟨Γ1,⟨g,pg,gq⟩,sub,alt⟩:=step c i d z;refine .inr ⟨go,fun x H2 hy pins s u I2 r=>?_⟩;obtain⟨F2,p2,ix⟩:=y x H2 hy;have keepD:∀ {F3 H3 F4 H4:Hp},Pur F3 H3 F4 H4->F3 D=none->(∃ o,H3 D=some o)->F4 D=none:=fun {F3 H3 F4 H4} pp f3 h3=>by
    cases zz:F4 D with
    |none=>rfl
    |some o=>
     rcases pp.new D (by rw[zz];simp) with w|w
     .exact absurd f3 w
     .obtain⟨o',h3⟩:=h3;rw[h3] at w;cases w
   have fD2:=keepD p2 fD ⟨_,hH⟩;have hH2:=p2.hh _ _ hH;refine pg pins s σ' H2 x u _ I2 r (gq F2 σ' H2 x _ p2.fh ix (sl'.mono p2.ff) I2.len fun σ3 sl3 _=>?_);rcases alt with ⟨e,ht,he,hpre⟩|⟨ht,hpre⟩
   .refine fun pins s I3=>ht pins s σ3 H2 _ I3 ⟨F2,p2.fh,sl3,fun H4 F4 p4=>BP ?_⟩;refine fun pins s I4=>he pins s σ3 H4 _ I4 ⟨F4,p4.fh,sl3.mono p4.ff,fun v H5 F5 p5 iv=>?_⟩;have fD5:=keepD p5 (keepD p4 fD2 ⟨_,hH2⟩) ⟨_,p4.hh _ _ hH2⟩;have hH5:=p5.hh _ _ (p4.hh _ _ hH2);have P5:=((pu.trans p2).trans p4).trans p5;refine⟨ys,hH5,by rw[il.len];exact hz i (by lia),m - 1,by lia,by lia,F5,⟨P5.ff,fun b o w=>?_,fun b o w=>?_,P5.new⟩,fD5,yX,?_,(sl3.mono (p4.ff.trans p5.ff)).sub sub⟩
    .rw[yR (Yo w fD5)];exact P5.fh _ _ w
    .rw[yR (Yo w hD)];exact P5.hh _ _ w
    .rw[hpre];exact(il.mono ((p2.ff.trans p4.ff).trans p5.ff)).append (IsL.cons iv IsL.nil)
   .refine fun pins s I3=>ht pins s σ3 H2 _ I3 ⟨F2,p2.fh,sl3,fun H4 F4 p4=>rO ?_⟩;have P4:=(pu.trans p2).trans p4;refine⟨ys,m - 1,by lia,by lia,F4,P4,keepD p4 fD2 ⟨_,hH2⟩,p4.hh _ _ hH2,?_,(sl3.mono p4.ff).sub sub⟩;rw[hpre];exact il.mono (p2.ff.trans p4.ff)
end
def Iv:R2:=fun x y H Q=>∃ a o,y=.ref a/\iI H a x o/\Q (.bl o.isSome) H
section
variable {X:Cx}{Γ:Ga}{a b:Expr}{ks:?Aj}{ds:?A7}{k:Key}
theorem FB (hu:?O):OpR X ?L9 Iv:=by
 rintro pins s σ H x y v u Q I rx ry ⟨a,o,rfl,g,q⟩;cases ry;exact Iz (Us hu) I g rx fun s3 I3=>⟨.bl o.isSome,H,I3,rfl,q⟩
theorem G2 (hu:?O)(ha:P3 X Γ a (KN k))(hb:P3 X Γ b ?FH):C3 X Γ a .In b (vA ks ds k).isSome:=
 c_R (FB hu) ha hb fun x y H F Q fh i1 i2 q=>by
  obtain⟨l,xs,ob,rfl,hl,hz,il⟩:=Cr i2;rw[Uu i1];refine⟨l,_,rfl,.inl ⟨_,k,.inr ⟨ob,fh _ _ hl⟩,rfl,rfl⟩,?_⟩;rw[Wf];rcases fg (k:=k) (ks:=ks) il with ⟨z1,z2⟩|⟨d1,v,z1,z2,z3⟩
  .rw[z2];rw[z1] at q;exact q
  .rw[z2];rw[z1] at q;exact q
end
end L3
namespace L2
open PySem PySem.Spec PySem.Calls PyProof.Rows
section
variable {X:Cx}{pins:?Q}{σ:St}{H:Hp}{s:?AI}{a:Addr}
theorem HOk.unknownX {P:?A6}{w:?A5}{h:Heap}{u:HO}{o:Obj}(ok:?B4)(e:H a=some ?BK):HOk P w (upd H a u) h:=fun b v q=>by
 have nown:∀ c y,H c=some (.own y)->c≠a:=fun c y r z=>by subst z;rw[e] at r;cases r
 have ntup:∀ c xs,H c=some ?BN->c≠a:=fun c xs r z=>by subst z;rw[e] at r;cases r
 have st:∀ {b:Addr} {v:HO},qQ P w H h b v->qQ P w (upd H a u) h b v:=fun {b v} x=>x.stay (fun _ _ _ z=>z) (fun c z=>?tJ) fun c xs z=>by rw[yR (ntup c _ z)];exact z
 by_cases hb:b=a
 .subst hb;rw[yX] at q;cases q;obtain⟨_,ho⟩:=(show qQ P w H h b ?BK from ok _ _ e)
  exact st ho
 .rw[yR hb] at q;exact ?L2
theorem Inv.unknownX {u:HO}{o:Obj}{pins':?Q}{σ':St}{H0:Hp}{s0:?AI}(I0:Inv X pins' σ' H0 s0)(e0:H0 a=some u)(d:A3 u=true)(I:?A8)(e:H a=some ?BK):Inv X pins σ (upd H a u) s:=by
 have nn:∀ b,H b=none->upd H a u b=none:=fun b z=>by
  rw[yR (fun y=>by subst y;rw[e] at z;cases z)];exact z
 refine⟨I.ok,I.os,?Cc,?xX,I.loc,?FV,?Ld,fun x c q=>?Jl,fun p hp=>?_,I.hok.unknownX e,I.len⟩
 .have z:=I.base.tups b xs q;rw[yR (fun y=>by subst y;rw[e] at z;cases z)];exact z
 .have z:=I.base.frzs b o' v q;have z0:=I0.base.frzs b o' v q;rw[yR (fun y=>by subst y;rw[e0] at z0;cases z0;cases d)];exact z
 .obtain⟨m,z⟩:=I.base.tbls b ps q;exact⟨m,by rw[yR (fun y=>by subst y;rw[e] at z;cases z)];exact z⟩
 .obtain⟨q1,q2,q3⟩:=I.pin p hp;exact ?Jt
end
end L2
namespace L3
open PySem PySem.Spec PySem.Calls PyProof.Rows L2
def WF (l:Addr)(F:Hp):Hp:=fun b=>if b=l then none else F b
mutual
theorem rT {K:?A1}{l:Addr}{F:Hp}{o:Obj}{φ:Heap->Prop}(hl:F l=some (.frz o (.ext φ))):∀ {d:D} {v:V},jL true d=true->Is K F d v->Is K (WF l F) d v
 |.non,v,_,h=>by simp only[Is] at h ⊢;exact h
 |.bl _,v,_,h=>by simp only[Is] at h ⊢;exact h
 |.int _,v,_,h=>by simp only[Is] at h ⊢;exact h
 |.str _,v,_,h=>by simp only[Is] at h ⊢;exact h
 |.tup ds,v,hs,h=>by
  rw[jL] at hs;obtain⟨a,xs,rfl,h1,h2⟩:=isT h;refine Is.tupI ?_ (Wa hl hs h2);rcases h1 with (h1|⟨o',h1⟩)|h1
  .exact .inl (.inl ?vU)
  .exact .inl (.inr ⟨o',?vU⟩)
  .exact .inr h1
 |.raw _,_,h,_=>by simp[jL] at h
 |.lst ds,v,hs,h=>by
  rw[jL,Yw] at hs;obtain⟨a,xs,rfl,h1,h2⟩:=cw h;refine Is.lstI ?_ (Wa hl hs.2 h2);rcases h1 with h1|⟨o',h1⟩
  .exact .inl ?vU
  .exact .inr ⟨o',?vU⟩
 |.dk ks ds,v,hs,h=>by
  rw[jL] at hs;simp only[Is] at h ⊢;obtain⟨a,xs,o',e1,e2,e3,e4⟩:=h;exact⟨a,xs,o',e1,by unfold WF;rw[ye fun z=>by rw[z,hl] at e2;cases e2];exact e2,e3,Wa hl hs e4⟩
 |.dt _ _,_,h,_=>by simp[jL] at h
 |.obj _ _ _,_,h,_=>by simp[jL] at h
 |.exc _,_,h,_=>by simp[jL] at h
 |.scr _,_,h,_=>by simp[jL] at h
theorem Wa {K:?A1}{l:Addr}{F:Hp}{o:Obj}{φ:Heap->Prop}(hl:F l=some (.frz o (.ext φ))):∀ {ds:List D} {xs:List V},zB true ds=true->IsL K F ds xs->IsL K (WF l F) ds xs
 |[],xs,_,h=>by simp only[IsL] at h ⊢;exact h
 |d::ds,xs,hs,h=>by
  rw[zB,Yw] at hs;simp only[IsL] at h ⊢;obtain⟨x,r,e,h1,h2⟩:=h;exact⟨x,r,e,rT hl hs.1 h1,Wa hl hs.2 h2⟩
end
def HY (P:?A6)(w:?A5)(K:?A1)(B:Bs)(l:Addr)(kvs:?zI):Prop:=∃ o xs es ep,B.F l=some (.frz o (Z0 P w l xs))/\DP K B.F kvs xs/\o.ExactDict/\o.data=.dict es ep/\es.toList.map (·.key)=(xs.map (·.2.1)).map Value.ref/\(l==sysModules)=false
section
variable {X:Cx}{B:Bs}{Γ:Ga}{Ω:Om}{tg e:Expr}{RL:?yS}{R:?X}{l:Addr}{kvs:?zI}{d:D}
theorem Dr (kn:HY X.prog X.w X.K B l kvs)(h:P3 X Γ e ?Ah)(r:RL (kvs.map fun p=>kD p.1) Ω):?HI:=fun F σ H S pins s I=>by
 have hv:V3 X B e Γ Ω fun d' Ω'=>d'=.raw ?Bh/\Ω'=Ω:=Yn h ?DR;refine thn (hv F σ H S pins s I) fun u s1 ⟨x,H1,I1,rx,dq,Ω1,F1,S1,f1,i1,e1,e2⟩=>?_;subst e1 e2;cases isR i1;cases rx;obtain⟨o,xs,es,ep,hB,dp,g2,g3,hk,h0⟩:=kn;have fl:F1 l=some (.frz o (Z0 X.prog X.w l xs)):=S1.f0 _ _ hB;obtain⟨g1,_⟩:=(show qQ X.prog X.w H1 s1.heap l (.frz o ?Dk) from I1.hok l _ (S1.fh _ _ fl))
 refine lw h0 ⟨o,g1,g2,g3⟩ ?_;have dl:=Paired.length dp;refine⟨?Ea,?jY,_,_,H1,rfl,I1.kept (t':=?Cy) fun b o e=>?At,iQ (a:=l) (u:=?Dk) g2 g3 hk,?Dh,fun b hb=>?_,_,_,F1,S1,f1,fun n F2 H2 e1 e2=>⟨fun d q=>?_,fun q=>⟨?P6,by rw[yd] at q ⊢;lia⟩⟩,r⟩
 .have e:b=s1.heap.objs.size:=by simpa using hb
  subst e;exact ?Dg
 .rw[yz] at q;obtain⟨p,hp,rfl⟩:=Yk.mp q;have hn:n<kvs.length:=(?ET).1;refine⟨⟨?P6,?qA⟩,fun y H3 ⟨z,k,hk',ey⟩=>?_⟩;subst z ey;refine ?JU;rw[yz] at hk';obtain⟨q',hq',rfl⟩:=Yk.mp hk';obtain⟨y1,y2⟩:=av dp hp hq';exact(y2.1.mono (S1.f0.trans e1)) |> fun z=>by rw[y1];exact z
theorem p9 (m:(l,Jz X.prog X.w X.K l kvs)∈Ω)(h:∀ B':Bs,B'.M=[]->HY X.prog X.w X.K B' l kvs->V3 X B' e Γ [] fun d' _=>d'=d)(hs:jL true d=true)(r:R d Ω):V3 X B e Γ Ω R:=fun F σ H S pins s I=>by
 obtain⟨xs,ha,dp,h0,o,es,ep,g1,g2,g3,g4,g5,g6⟩:=uW S I m;have fa:=(S.own _ m).1;have I1:=I.knownX ha rfl g1;have w:Yh F (upd F l (.frz o (Z0 X.prog X.w l xs))):=fun b u q=>by rw[yR (Yo q fa)];exact q
 have hk:es.toList.map (·.key)=(xs.map (·.2.1)).map Value.ref:=by rw[g4,YB,YB];rfl
 have S1:Sat X.K ⟨[],upd F l (.frz o (Z0 X.prog X.w l xs)),upd H l (.frz o (Z0 X.prog X.w l xs))⟩ Γ [] (upd F l (.frz o (Z0 X.prog X.w l xs))) σ (upd H l (.frz o (Z0 X.prog X.w l xs))):=by
  refine⟨Yh.refl _,fun b u q=>?_,fun _ q=>.inl q,fun _ _ _ q=>q,Qa,fun p hp=>absurd hp (by simp),fun p hp=>absurd hp (by simp),S.sl.mono w⟩;by_cases hb:b=l
  .subst hb;rw[yX] at q ⊢;exact q
  .rw[yR hb] at q ⊢;exact S.fh _ _ q
 refine thn (h _ rfl ⟨o,xs,es,ep,yX,dp.mono w,g2,g3,hk,h0⟩ _ σ _ S1 pins s I1) fun v s2 ⟨x,H2,I2,rx,d',Ω2,F2,S2,f2,i2,ed⟩=>?_;subst ed;have el:F2 l=some (.frz o (Z0 X.prog X.w l xs)):=f2 _ _ yX;have eh:H2 l=some (.frz o (Z0 X.prog X.w l xs)):=S2.fh _ _ el;have I3:=Inv.unknownX I ha rfl I2 eh;have P3:Pur F H (WF l F2) (upd H2 l (Z0 X.prog X.w l xs)):=by
  refine⟨fun b u q=>?_,fun b u q=>?_,fun b u q=>?_,fun b q=>?_⟩
  .unfold WF;rw[ye (Yo q fa)];exact f2 _ _ (w _ _ q)
  .unfold WF at q;split at q
   .cases q
   .rename_i hb;rw[yR hb];exact S2.fh _ _ q
  .by_cases hb:b=l
   .subst hb;rw[yX,←ha,q]
   .rw[yR hb];exact S2.kp b u (by simp) (by show upd H l _ b=_;rw[yR hb];exact q)
  .unfold WF at q;split at q
   .exact absurd rfl q
   .rename_i hb;rcases S2.fr b q with z|z|z
    .have z':upd F l (.frz o (Z0 X.prog X.w l xs)) b≠none:=z;rw[yR hb] at z';exact .inl z'
    .have z':upd H l (.frz o (Z0 X.prog X.w l xs)) b=none:=z;rw[yR hb] at z';exact .inr z'
    .exact absurd z (by simp)
 exact⟨x,_,I3,rx,d',Ω,_,S.pur P3,P3.ff,rT el hs i2,r⟩
end
structure ClsS (K:?A1)(C:Addr):Prop where
 c:Cls K C
 n_grammar:QM K C "grammar"
 n_row:QM K C "row"
 n_known_heads:QM K C "known_heads"
 n_branches:QM K C "branches"
 n_chains:QM K C "chains"
 n_known_sums:QM K C "known_sums"
 n_known_worths:QM K C "known_worths"
theorem CH {K:?A1}{C:Addr}(pg:?tN)(hd:?vD)(po:?xG)(sa:?vS)
  (n1:W.findIn K ?AF "grammar" = some none) (n2:W.findIn K ?AF "row" = some none) (n3:W.findIn K ?AF "known_heads" = some none) (n4:W.findIn K ?AF "branches" = some none) (n5:W.findIn K ?AF "chains" = some none) (n6:W.findIn K ?AF "known_sums" = some none) (n7:W.findIn K ?AF "known_worths" = some none):ClsS K C:=⟨?K8,n1,n2,n3,n4,n5,n6,n7⟩
theorem kJ:("within" : Str)∉sF:=by decide +kernel
theorem vR:("whole" : Str)∉sF:=by decide +kernel
theorem xT:("settle" : Str)∉sF:=by decide +kernel
theorem wH:("ends_at" : Str)∉sF:=by decide +kernel
theorem vP:("worth" : Str)∉sF:=by decide +kernel
theorem jp:("worth_of_body" : Str)∉sF:=by decide +kernel
theorem We [DecidableEq κ]:∀ {ks:List κ} {xs:List α},k∈ks->ks.length=xs.length->∃ v,vA ks xs k=some v
 |[],_,h,_=>by cases h
 |_::_,[],_,h=>by simp at h
 |q::ks,x::xs,h,hl=>by
  unfold vA;rw[Yb,yS];by_cases e:q=k
  .rw[yL e];exact⟨x,rfl⟩
  .rw[yA e];exact We ((yG.mp h).resolve_left fun z=>e z.symm) (by simpa using hl)
theorem iB {L:?A0}{x:Str}(h:x∈L):L[L.idxOf x]?=some x:=by
 have hl:L.idxOf x<L.length:=qi.mpr h;rw[yl hl,List.getElem_idxOf]
theorem xk {ch:?I}:(W6 L ch e h).length=e.1.length:=by unfold W6;rw[yd]
theorem cN {L:?A0}{F:Nat->D}{h:Str}(nd:?Gq)(hh:h∈L):vA ?Bd ?K0 (qv h)=some (F ?Io):=by
 have:=HB (ks:=?Bd) (F:=F) (k:=qv h) (i:=?Io) (xN nd) (by rw[yz,iB hh];rfl)
 rw[yd] at this;exact this
theorem GG {e:En}{o:Str}(hl:e.1.length=e.2.length)(ho:o∈e.1):vA (e.1.map qv) (e.2.map sh) (qv o)=some (sh ((vA e.1 e.2 o).getD 0)):=by
 rw[VH j3];obtain⟨v,hv⟩:=We ho hl;rw[hv];rfl
theorem sJ {ch:?I}:∀ {hs:List Str} {kn:Kn},(hs.foldl ?Ep kn).1.length<=kn.1.length+hs.length
 |[],kn=>yg _
 |h::hs,kn=>by
  rw[Yz,yw];have:=sJ (L:=L) (ch:=ch) (e:=e) (i:=i) (j:=j) (hs:=hs) (kn:=QU L ch e i j kn h);have:(QU L ch e i j kn h).1.length<=kn.1.length+1:=by
   unfold QU v7;split
   .lia
   .exact xI
  lia
def yQ (rs:?A4):?A0:=zL ?AJ rs
def zj (rs:?A4):?A4:=(?BZ).filter fun r=>!jt ?AA r
def kh (rs:?A4):?A4:=(?BZ).filter ?Cp
def Zz (rs:?A4):?I:=chF ?AA ?D7
theorem tZ(hs:∀ r∈ss,0<=r.2.2/\Sz s r.2.2)(h1:1<=s)(hp:Piv L.length ?Ge):km L.length L.length (sK s L.length) (chF L ss):=by
 have gI:km L.length L.length s (idM L):=fun i j _ _=>by
  unfold idM;split
  .exact⟨?B,gU.mono h1⟩
  .exact⟨?B,Xw.mono h1⟩
 have gW:km L.length L.length s (wM2 L ss):=fun i j _ _=>nA hs h1;have G:=(mz gW gI).at (jA _ _) L.length (yg _) fun k hk=>Bh hp k hk;intro i j hi hj;exact G i (L.length+j) hi ?A
def OkN (D n e:Nat)(q:Rat):Prop:=∃ z:Nat,q=Rat.divInt (z:Int) ((D ^ e:Nat):Int)/\z<=n*D ^ (2*e)
abbrev OkD (D e:Nat)(q:Rat):Prop:=OkN D 1 e q
section
variable {D n m e f:Nat}{p q:Rat}
theorem Ub (h:0<D):(0:Int)<((D ^ e:Nat):Int):=by have:=jQ (n:=e) h;lia
theorem OkN.nn (hD:0<D)(h:?Lk):0<=q:=by
 obtain⟨z,rfl,_⟩:=h;exact Rat.divInt_nonneg ?A (yN (Ub hD))
theorem OkN.sz(hD:0<D)(hb:D<2 ^ b)(h:OkD D e q):Sz (2*e*b+1) q:=by
 obtain⟨z,rfl,hz⟩:=h;rw[Nat.one_mul] at hz;have h1:D ^ (2*e)<=2 ^ (b*(2*e)):=by have:=Nat.pow_le_pow_left (Qb hb) (2*e);rwa [←Nat.pow_mul] at this
 have h2:D ^ e<=D ^ (2*e):=YU hD ?A;have h3:2 ^ (2*e*b+1)=2 ^ (b*(2*e))+2 ^ (b*(2*e)):=by rw[QJ,JI (2*e) b];lia
 have h4:0<2 ^ (b*(2*e)):=jQ ?B;refine zI (Ub hD) ?_ ?_
 .rw[qU];lia
 .rw[qU];lia
theorem OkN.more (h:?Lk)(l:n<=m):OkN D m e q:=by
 obtain⟨z,e1,e2⟩:=h;exact⟨z,e1,yU e2 (YI _ l)⟩
theorem OkN.up (hD:0<D)(h:?Lk)(l:n<=D):OkD D (e+1) q:=by
 obtain⟨z,e1,e2⟩:=h;refine⟨z*D,?_,?_⟩
 .rw[e1,QJ,qK,qK,Ks ?A]
 .rw[Nat.one_mul,show 2*(e+1)=2*e+1+1 by lia,QJ,QJ];have:=YI D (yU e2 (YI (D ^ (2*e)) l));rw[JI D (D ^ (2*e))] at this;exact this
theorem OkD.mono (hD:0<D)(h:OkD D e q)(l:e<=f):OkD D f q:=by
 induction f with
 |zero=>rw[Nat.le_zero.mp l] at h;exact h
 |succ f ih=>
  rcases JN e (f+1) with h1|h1
  .exact OkN.up hD (ih ?A) hD
  .rw[show f+1=e by lia];exact h
theorem bU:OkN D n e 0:=⟨0,by simp,YC _⟩
theorem sW:OkD D 0 1:=⟨1,by simp;decide,by simp⟩
theorem OkN.mul (hD:0<D)(h:OkN D n e p)(g:OkN D m f q):OkN D (n*m) (e+f) (p*q):=by
 obtain⟨z,e1,e2⟩:=h;obtain⟨y,f1,f2⟩:=g;refine⟨z*y,?_,?_⟩
 .rw[e1,f1,jI,jk];push_cast;rfl
 .have:=qt e2 f2;rw[show n*D ^ (2*e)*(m*D ^ (2*f))=n*m*(D ^ (2*e)*D ^ (2*f)) by grind,←jk,←Nat.mul_add] at this;exact this
theorem OkD.mul (hD:0<D)(h:OkD D e p)(g:OkD D f q):OkD D (e+f) (p*q):=OkN.mul hD h g
theorem OkN.add (hD:0<D)(h:OkN D n e p)(g:OkN D m e q):OkN D (n+m) e (p+q):=by
 obtain⟨z,e1,e2⟩:=h;obtain⟨y,f1,f2⟩:=g;refine⟨z+y,?_,?_⟩
 .have:=Ub (D:=D) (e:=e) hD;rw[e1,f1,jD _ _ ?A ?A,←Int.add_mul,Ks this];push_cast;rfl
 .rw[Q3];lia
theorem kU (hD:0<D):∀ {ps:List (Rat×Rat)},(∀ p∈ps,OkD D e (p.1*p.2))->OkN D ps.length e (ju ps):=by
 intro ps;have go:∀ (ps:List (Rat×Rat)) (a:Rat) (n:Nat),OkN D n e a->(∀ p∈ps,OkD D e (p.1*p.2))->OkN D (n+ps.length) e (ps.foldl (fun a p=>a+p.1*p.2) a):=by
  intro ps
  induction ps with
  |nil=>intro a n h _;exact h
  |cons p ps ih=>
   intro a n h hp;rw[Yz,yw,show n+(ps.length+1)=(n+1)+ps.length by lia];exact ih _ _ (h.add hD (hp p (by simp))) fun x hx=>hp x ?Ap
 intro h;have:=go ps 0 0 bU h;rw[qp] at this;exact this
end
abbrev BK:=List Str×Nat×Nat
abbrev Kw:=List (BK×Rat)
def kB (p:BK):?Az:=[.inr (p.1.map Sum.inr),.inl (.inl (p.2.1:Int)),.inl (.inl (p.2.2:Int))]
theorem U7:∀ {a b:List Str},a.map (Sum.inr (α:=Int))=b.map Sum.inr->a=b
 |[],[],_=>rfl
 |[],_::_,h=>by simp at h
 |_::_,[],h=>by simp at h
 |x::a,y::b,h=>by
  rw[yt,yt,List.cons.injEq] at h;rw[Sum.inr.inj h.1,U7 h.2]
theorem rM(h:kB x=kB y):x=y:=by
 obtain⟨a,b,c⟩:=x;obtain⟨d,e,f⟩:=y;unfold kB at h;simp only[List.cons.injEq,Sum.inr.injEq,Sum.inl.injEq,and_true,Int.ofNat_inj] at h;rw[U7 h.1,h.2.1,h.2.2]
def kwV (kw:Kw):?zI:=kw.map fun p=>(kB p.1,sh p.2)
def kH (kw:Kw)(k:BK):Option Rat:=(kw.find? fun p=>decide (p.1=k)).map ?zC
def Xf (kw:Kw)(k:BK)(v:Rat):Kw:=if (kH kw k).isSome=true then kw.map fun p=>if p.1=k then (p.1,v) else p else kw++[(k,v)]
theorem Uv:∀ {kw:Kw},atD (kwV kw) (kB k)=(kH kw k).map sh
 |[]=>rfl
 |p::kw=>by
  have ih:=Uv (k:=k) (kw:=kw);unfold atD kH kwV at ih ⊢;rw[yt,yS,yS];by_cases e:p.1=k
  .rw[yL e,yL (show kB p.1=kB k by rw[e])];rfl
  .rw[yA e,yA (show ¬ kB p.1=kB k from fun z=>e (rM z))];exact ih
theorem C1 {v:Rat}:wB (kwV kw) (kB k) (sh v)=kwV ?Ih:=by
 unfold wB Xf;rw[Uv];cases q:kH kw k with
 |none=>
  simp[kwV]
 |some u=>
  simp only[Option.map_some,Option.isSome_some,if_true];unfold kwV;rw[YB,YB];refine Jv fun p _=>?_;show(if kB p.1=kB k then (kB p.1,sh v) else (kB p.1,sh p.2))=(kB (?tO).1,sh (?tO).2)
  by_cases e:p.1=k
  .rw[yf (by rw[e]),yf e]
  .rw[ye (fun z=>e (rM z)),ye e]
theorem sR {v:Rat}:∀ {kw:Kw},kH ?Ih k=some v:=by
 intro kw;unfold Xf;cases q:kH kw k with
 |none=>
  simp only[Option.isSome_none,Y9,if_false];unfold kH at q ⊢;rw[List.find?_append];have:kw.find? (fun p=>decide (p.1=k))=none:=by simpa using q
  rw[this];simp
 |some u=>
  simp only[Option.isSome_some,if_true];have go:∀ {kw:Kw} {u:Rat},kH kw k=some u->kH (kw.map fun p=>?tO) k=some v:=by
   intro kw
   induction kw with
   |nil=>intro u h;simp[kH] at h
   |cons p kw ih=>
    intro u h;unfold kH at h ⊢;rw[yt,yS];rw[yS] at h;by_cases e:p.1=k
    .rw[yf e,yL e];rfl
    .rw[ye e,yA e];rw[yA e] at h;exact ih h
  exact go q
theorem eX {v:Rat}{p:BK×Rat}(h:p∈Xf kw k v):p=(k,v)∨p∈kw:=by
 unfold Xf at h;split at h
 .obtain⟨q,hq,e⟩:=yn.mp h;split at e
  .rename_i e2;exact .inl (by rw[←e,e2])
  .exact .inr (e▸hq)
 .rcases Yj.mp h with z|z
  .exact ?D5
  .exact ?Ht
theorem A9 {v:Rat}:(?Ih).length<=kw.length+1:=by
 unfold Xf;split
 .rw[yd];lia
 .rw[yK];exact yg _
theorem dJ {v:Rat}(h:kH kw k=some v):(k,v)∈kw:=by
 unfold kH at h;obtain⟨p,h1,h2⟩:=Yk.mp h;have a:=Yx h1;have b:=Jk h1;have b:p.1=k:=by simpa using b
 rw[←b,←h2];exact a
theorem Hy:kD (kB (b,i,j))=.tup [Yd b,.int (i:Int),.int (j:Int)]:=by
 unfold kD kB;simp only[yt,ji,k2D,KN,YB];rfl
abbrev Ac:=List ?K×Kw
def ja (wo:?W)(f:Nat->Kw->Rat×Kw)(i:Nat)(acc:Ac)(t:Nat):Ac:=if wo (i+1+t)=0 then acc else (acc.1++[(wo (i+1+t),(f (i+1+t) acc.2).1)],(f (i+1+t) acc.2).2)
def nP (n i j:Nat):Nat:=(j+1) - (n+i)
def wBm (hs row:?A0)(kn:Kn):List Str->Nat->Nat->Kw->Rat×Kw
  |[],_,_,kw=>(0,kw)
  |[x],i,j,kw=>(?El,kw)
  |x::y::rest,i,j,kw=>
    match kH kw ?qU with
    |some v=>(v,kw)
    |none=>
      (ju ((?G2).foldl ?zW ?zY).1,
       Xf ((?G2).foldl ?zW ?zY).2 ?qU (ju ((?G2).foldl ?zW ?zY).1))
def KnD (D:Nat)(kn:Kn):Prop:=∀ p∈kn.1.zip kn.2,OkD D (9*(p.1.2.2 - p.1.2.1) - 5) p.2
def KwD (D:Nat)(kw:Kw):Prop:=∀ p∈kw,OkD D (9*(p.1.2.2 - p.1.2.1) - 9) p.2
theorem tj {κ α:Type}[DecidableEq κ]{k:κ}{v:α}{ks:?Ak}{xs:?Ay}(h:vA ks xs k=some v):(k,v)∈ks.zip xs:=by
 unfold vA at h;obtain⟨p,h1,h2⟩:=Yk.mp h;have b:=Jk h1;have b:p.1=k:=by simpa using b
 rw[←b,←h2];exact Yx h1
section
variable {D:Nat}{hs row:?A0}{kn:Kn}{kw:Kw}
theorem AY (hD:0<D)(h:?Iy){x:Str}{i j:Nat}:OkD D ?yW ?Ll:=by
 unfold JA;cases q:vA kn.1 kn.2 (x,i,j) with
 |none=>exact bU
 |some v=>exact h _ (tj q)
theorem AA (hD:0<D)(h:?Iy):OkD D ?yW ?El:=by
 unfold woS;split
 .exact AY hD h
 .split
  .exact ?OM
  .exact bU
theorem Hj (hD:0<D)(hx:x∉hs):OkD D e ?El:=by
 unfold woS;rw[ye hx];split
 .exact ?OM
 .exact bU
structure AcOk (D e n m:Nat)(acc:Ac):Prop where
 len:acc.1.length<=n
 prs:∀ p∈acc.1,OkD D e (p.1*p.2)/\OkD D (e+5) p.1/\OkD D (e+5) p.2
 kw:KwD D acc.2
 kl:acc.2.length<=m
theorem KwD.put {v:Rat}(h:KwD D kw)(hv:OkD D (9*(k.2.2 - k.2.1) - 9) v):KwD D ?Ih:=fun p hp=>by
 rcases eX hp with z|z
 .subst z;exact hv
 .exact h p z
def WB (D:Nat)(hs row:?A0)(kn:Kn)(b:?A0):Prop:=∀ i j kw,i<j->j - i<=10->KwD D kw->OkD D ?yW (?Dj).1/\(2<=b.length->OkD D (9*?P - 9) (?Dj).1)/\KwD D (?Dj).2/\(?Dj).2.length<=kw.length+11 ^ b.length
theorem mS (hD:0<D)(hk:?Iy)(ih:WB D hs row kn ?zE)(hij:j - i<=10)(hw:KwD D kw):∀ t,t<=nP (rest.length+2) i j->
  AcOk D (9*?P - 10) t (kw.length+t*11 ^ (rest.length+1)) ((?GD).foldl ?zW ?zY)
 |0,_=>⟨yg _,(fun p hp=>by cases hp),hw,by simp⟩
 |t+1,ht=>by
  have a:=mS hD hk (x:=x) (y:=y) (rest:=rest) (i:=i) (j:=j) ih hij hw t ?A;rw[qw,y7];generalize (?GD).foldl ?zW ?zY=acc at *;have hn:i+1+t+1<=j:=by unfold nP at ht;lia
  obtain⟨w1,w2,w3,w4⟩:=ih (i+1+t) j acc.2 ?A ?A a.kw;have wx:=AA (hs:=hs) (row:=row) (x:=x) (i:=i) (j:=i+1+t) hD hk;rw[Yz,List.foldl_nil];unfold ja;split
  .exact⟨qy a.len,a.prs,a.kw,yU a.kl ?wB⟩
  .refine⟨by rw[yK];exact Qv a.len,fun p hp=>?_,w3,?_⟩
   .rcases Yj.mp hp with z|z
    .exact a.prs p z
    .rw[yy.mp z];exact⟨(wx.mul hD w1).mono hD ?A,wx.mono hD ?A,w1.mono hD ?A⟩
   .have:=a.kl;rw[yw] at w4;rw[Q3,Nat.one_mul];show(wBm hs row kn ?zE (i+1+t) j acc.2).2.length<=_;lia
theorem wn (hD:32<=D)(hk:?Iy):∀ b:List Str,b≠[]->WB D hs row kn b
 |[],h=>absurd rfl h
 |[x],_=>fun i j kw hi hj hw=>by
  rw[wBm];exact⟨AA ?A hk,fun h=>by simp at h,hw,by simp⟩
 |x::y::rest,_=>fun i j kw hi hj hw=>by
  have ih:=wn hD hk ?zE (by simp);have hD0:0<D:=by lia
  rw[wBm];cases q:kH kw ?qU with
  |some v=>
   have:=hw _ (dJ q);exact⟨OkD.mono hD0 this (by simp only;lia),fun _=>this,hw,by simp⟩
  |none=>
   have a:=mS hD0 hk (x:=x) (y:=y) (rest:=rest) (i:=i) (j:=j) ih hj hw _ ?AH;have np:nP (rest.length+2) i j<=9:=by unfold nP;lia
   dsimp only;generalize (?G2).foldl ?zW ?zY=acc at *;have v:OkD D (9*(j - i) - 9) (ju acc.1):=by
    by_cases h2:2<=j - i
    .have:=OkN.up hD0 (kU hD0 fun p hp=>(?M4).1) (by have:=a.len;lia);exact OkD.mono hD0 this ?A
    .have z:nP (rest.length+2) i j=0:=by unfold nP;lia
     have:acc.1=[]:=Qy.mp (by have:=a.len;lia);rw[this];exact bU
   refine⟨OkD.mono hD0 v ?A,fun _=>v,a.kw.put v,yU A9 ?_⟩;have h1:=a.kl;have h2:nP (rest.length+2) i j*11 ^ (rest.length+1)<=9*11 ^ (rest.length+1):=YI _ np;have h3:0<11 ^ (rest.length+1):=jQ ?B;rw[show(x::y::rest).length=(rest.length+1)+1 from rfl,QJ];lia
end
theorem Vi {τ:Type}{om:τ->Om}{C:?yB}{P:?A6}{w:?A5}{K:?A1}{mg:?G}{base:Heap}{m q:Str}{st:Stmt}{N ps:?A0}{k n:Nat}{Cc:Addr}(d:?Hc)(S:?BW)(hn:?yI)(hm:∀ t ds t' d,C t ds t' d->(om t').map ?C=(om t).map ?C)
  (body:∀ (f:Addr) (cdv:Value) (A:Around) (outer:List Env) (s:Shared) (H:Hp) (E:XK),Room k ?CI->∀ (t:τ) (ds:List D) (t':τ) (r:D),C t ds t' r->∀ B:Bs,
   W3 ?C3 B ?Ae ?Bz (om t) ⟨fun _ Ω=>r=.non/\∀ p∈om t',p∈Ω,fun r' Ω=>r'=r/\∀ p∈om t',p∈Ω,fun _ _=>?AC,fun _ _=>?AC⟩):OkM P w K mg base CX0 (k+1) Cc m ps (spS K n om C):=
 d.ok S (fun vs H Q E h=>(spS.len h).trans hn.symm) fun f cdv A outer s H vs Q E hr h=>⟨_,Qg,by
  obtain⟨t,ds,t',r,F,hC,hl,fh,il,nd,own,q⟩:=h;have S0:Sat K (⟨(om t).map (fun p:Addr×Ow=>p.1),F,H⟩:Bs) (jw N ds) (om t) F (L2.start N vs) H:=
   ⟨?AE,fh,fun _ q=>?Bk,fun _ _ _ e=>e,nd,fun p hp=>.inl ?GF,own,Sl.start il⟩
  have fin:∀ {Ω':Om} {F' H':Hp} {σ':L2.St} {Γ':Ga} {v:V},(∀ p∈om t',p∈Ω')->Sat K (⟨(om t).map (fun p:Addr×Ow=>p.1),F,H⟩:Bs) Γ' Ω' F' σ' H'->Is K F' r v->Q v H':=by
   intro Ω' F' H' σ' Γ' v e S' iv;refine q v H' F' S'.f0 S'.fh (fun b o hb e=>S'.kp b o hb e) ?wH (fun p hp=>?PW) iv;rcases S'.fr b hb with z|z|z
   .exact ?BY
   .exact ?D5
   .have z':b∈(om t).map ?C:=z;rw[←hm _ _ _ _ hC] at z';obtain⟨p,hp,rfl⟩:=yn.mp z';exact absurd (?PW).1 hb
  refine Qs (D:=E3.to K (?wQ:Bs) F ⟨fun _ Ω=>r=.non/\∀ p∈om t',p∈Ω,fun r' Ω=>r'=r/\∀ p∈om t',p∈Ω,fun _ _=>?AC,fun _ _=>?AC⟩) (D':={nx:=fun _ H'=>?Aq,rt:=Q}) ?_ ?_ ?_ ?_ (body f cdv A outer s H E hr t ds t' r hC (?wQ:Bs) F _ H S0)
  .rintro σ' H' ⟨Γ',Ω',F',S',f',e1,e2⟩;exact fin e2 S' (by rw[e1];exact lK F')
  .rintro v H' ⟨d',Ω',F',⟨σ',S'⟩,f',i',e1,e2⟩;subst e1;exact fin e2 S' i'
  .rintro σ' H' ⟨_,_,_,_,_,z⟩;exact ?AR
  .rintro σ' H' ⟨_,_,_,_,_,z⟩;exact ?AR⟩
theorem FN:vQ (d::ds) (some 1) none=ds:=by
 unfold vQ;simp[HT.sIx]
structure GSt where
 a:Addr
 b:Addr
 c:Addr
 g:D
 row:List Str
 hs:List Str
 br:List yC
 L:List Str
 ch:Nat->Nat->Rat
 kn:Kn
 kw:Kw
def omG (P:?A6)(w:?A5)(K:?A1)(Cs:Addr)(t:GSt):Om:=[(t.a,zi K Cs sF [t.g,Yd t.row,.lst (yT t.hs),.lst (yD t.br),chD t.L t.ch,.raw (.ref t.b),.raw (.ref t.c)]),(t.b,?H2),(t.c,?OA)]
structure GsOk (t:GSt)(D b:Nat):Prop where
 d:32<=D
 db:D<2 ^ b
 bl:b<=16500
 rl:t.row.length<=5
 kn:KnD D t.kn
 kw:KwD D t.kw
theorem GsOk.sz {D b e:Nat}{q:Rat}(g:GsOk t D b)(h:OkD D e q)(he:e<=50):0<=q/\Sz 1650001 q:=by
 have d:=g.d;refine⟨h.nn ?A,(h.sz ?A g.db).mono ?_⟩;have:2*e*b<=100*16500:=qt ?A g.bl;lia
def ZY (t:GSt)(x y:Str)(rest:?A0)(i j n:Nat):Ac:=(?Dw).foldl (ja (fun m=>?Nq) (fun m=>?NY) i) ([],t.kw)
def Ii (n:Nat):?kZ:=fun t ds t' d=>∃ (x y:Str) (rest:List Str) (i j D b:Nat),ds=[.raw ?BV,Yd (x::y::rest),.int (i:Int),.int (j:Int)]/\t'={t with kw:=(?Fg).2}/\d=sh (ju (?Fg).1)/\rest.length+2<=n/\n<=4/\i<j/\j<=t.row.length/\GsOk t D b/\t.kw.length+n*20000<=16000000
def oj (n:Nat):?kZ:=fun t ds t' d=>∃ (body:List Str) (i j D b:Nat),ds=[.raw ?BV,Yd body,.int (i:Int),.int (j:Int)]/\t'={t with kw:=(?My).2}/\d=sh (?My).1/\1<=body.length/\body.length<=n/\n<=4/\i<j/\j<=t.row.length/\GsOk t D b/\t.kw.length+n*20000<=16000000
theorem HG {P:?A6}{w:?A5}{K:?A1}{Cs:Addr}{n:Nat}:∀ t ds t' d,Ii n t ds t' d->(?Hl).map ?C=(?Fz).map ?C:=fun t ds t' d ⟨_,_,_,_,_,_,_,_,e,_⟩=>by subst e;rfl
theorem D1 {P:?A6}{w:?A5}{K:?A1}{Cs:Addr}{n:Nat}:∀ t ds t' d,oj n t ds t' d->(?Hl).map ?C=(?Fz).map ?C:=fun t ds t' d ⟨_,_,_,_,_,_,e,_⟩=>by subst e;rfl
theorem UM {P:?A6}{w:?A5}{K:?A1}{Cs:Addr}{t:GSt}{L:Bool}:uc L ?Fz:=qW Vf (qW b7 (qW xV Ua))
theorem Vl:("sum_of_partings" : Str)∉sF:=by decide +kernel
theorem lW(h:n<=9):Fx n 1650001<=big:=by
 show n*6600006+2<=67108864;lia
theorem mX:1650001<=10000000:=by decide
theorem tH {P:?A6}{w:?A5}{K:?A1}{Cs:Addr}{t:GSt}:(omG P w K Cs t++[]).Perm ((t.c,?OA)::[(t.a,zi K Cs sF [t.g,Yd t.row,.lst (yT t.hs),.lst (yD t.br),chD t.L t.ch,.raw (.ref t.b),.raw (.ref t.c)]),(t.b,?H2)]):=Yu (l₁:=[_,_]) (l₂:=[_])
def Q9 (hs row:?A0)(kn:Kn)(i j:Nat)(acc:En×Kw)(r:yC):En×Kw:=
 if (?kR).1=0 then (acc.1,(?kR).2)
 else ((pK acc.1.1 r.1,pA acc.1.1 acc.1.2 r.1 ((vA acc.1.1 acc.1.2 r.1).getD 0+r.2.2*(?kR).1)),(?kR).2)
def vn (hs row:?A0)(kn:Kn)(br:?A4)(i j:Nat)(kw:Kw):En×Kw:=br.foldl ?Ed ?yD
structure BrG (M:Nat)(hs L:?A0)(br:?A4):Prop where
 len:br.length<=30
 hd:∀ r∈br,r.1∈L
 body:∀ r∈br,1<=r.2.1.length/\r.2.1.length<=4/\∀ x,r.2.1=[x]->x∉hs
 sz:∀ r∈br,OkD M 1 r.2.2
structure EnG (M e n m:Nat)(L:?A0)(a:En×Kw):Prop where
 len:a.1.1.length<=n
 nd:a.1.1.Nodup
 eq:a.1.1.length=a.1.2.length
 keys:∀ x∈a.1.1,x∈L
 vals:∀ q∈a.1.2,OkN M n e q
 kw:KwD M a.2
 kl:a.2.length<=m
theorem fP {κ:Type}[DecidableEq κ]{k:κ}{ks:?Ak}(h:ks.Nodup):(?DY).Nodup:=by
 unfold pK;split
 .exact h
 .rename_i hk;rw[Ye];exact⟨h,by simp,fun a ha b hb e=>hk (by rw[yy.mp hb] at e;exact e▸ha)⟩
theorem cM [DecidableEq α]:∀ {xs ys:List α},xs.Nodup->(∀ x∈xs,x∈ys)->xs.length<=ys.length
 |[],_,_,_=>YC _
 |x::xs,ys,h,hs=>by
  have hx:=hs x (by simp);have:=cM (xs:=xs) (ys:=ys.erase x) (Yi.mp h).2 fun z hz=>(List.mem_erase_of_ne (a:=z) (b:=x) (fun e=>by subst e;exact(Yi.mp h).1 hz)).mpr (hs z (yb _ hz));rw[List.length_erase_of_mem hx] at this;have:0<ys.length:=List.length_pos_of_mem hx;rw[yw];lia
section
variable {M:Nat}{hs row L:?A0}{kn:Kn}{br:?A4}{i j:Nat}{kw:Kw}
theorem HA (hM:32<=M)(hk:?FJ)(hij:i<j)(hj:j - i<=10)(hw:KwD M kw)(h1:1<=b.length)(hx:∀ x,b=[x]->x∉hs):OkD M (9*?P - 9) (?Dj).1:=by
 obtain⟨_,w2,_,_⟩:=wn (hs:=hs) (row:=row) hM hk b (by intro z;rw[z] at h1;simp at h1) i j kw hij hj hw;by_cases h:2<=b.length
 .exact w2 h
 .obtain⟨x,rfl⟩:∃ x,b=[x]:=QK.mp ?A;rw[wBm];exact Hj ?A (hx x rfl)
theorem bh (hM:0<M){e n:Nat}{a:En}(h:∀ q∈a.2,OkN M n e q){x:Str}:OkN M n e ((vA a.1 a.2 x).getD 0):=by
 cases q:vA a.1 a.2 x with
 |none=>exact bU
 |some v=>exact h v (cX q)
theorem uS (hM:32<=M)(hk:KnD M kn)(hb:BrG M hs L br)(hij:i<j)(hj:j - i<=10)(hw:KwD M kw):∀ n,n<=br.length->EnG M (9*(j - i) - 8) n (kw.length+n*20000) L ((br.take n).foldl (Q9 hs row kn i j) (([],[]),kw))
 |0,_=>⟨yg _,Qa,rfl,(fun x hx=>by cases hx),(fun q hq=>by cases hq),hw,by simp⟩
 |n+1,hn=>by
  have hr:br[n]?=some br[n]:=yl (by lia);have a:=uS hM hk hb hij hj hw n (by lia);rw[Yg hr,y7];generalize (br.take n).foldl (Q9 hs row kn i j) (([],[]),kw)=acc at *;have hm:=yx hr;generalize br[n]=r at *;obtain⟨b1,b2,b3⟩:=hb.body r hm;have w9:=HA (hs:=hs) (row:=row) hM hk hij hj a.kw b1 b3;obtain⟨_,_,w3,w4⟩:=wn (hs:=hs) (row:=row) hM hk r.2.1 (by intro z;rw[z] at b1;simp at b1) i j acc.2 hij hj a.kw;have h11:11 ^ r.2.1.length<=11 ^ 4:=YU (by decide) b2;have kl:=a.kl;rw[Yz,List.foldl_nil];unfold Q9;split
  .exact⟨qy a.len,a.nd,a.eq,a.keys,fun q hq=>(a.vals q hq).more (by lia),w3,by dsimp only;lia⟩
  .refine⟨yU xI (Qv a.len),fP a.nd,kj a.eq,fun x hx=>?_,fun q hq=>?_,w3,by dsimp only;lia⟩
   .rcases i8 hx with z|z
    .rw[z];exact hb.hd r hm
    .exact a.keys x z
   .rcases Ff hq with z|z
    .rw[z];have t:=OkD.mul (by lia) (hb.sz r hm) w9;exact OkN.add (by lia) (bh (by lia) a.vals) (OkD.mono (by lia) t (by lia))
    .exact(a.vals q z).more (by lia)
def ChD (M:Nat)(L:?A0)(ch:?I):Prop:=∀ i j,i<L.length->j<L.length->OkD M 1 (ch i j)
theorem sE (hM:32<=M){ch:?I}{e n m:Nat}{a:En×Kw}{h:Str}(c:ChD M L ch)(he:?Kb)(hn:n<=30)(hh:h∈L):∀ p∈W6 L ch a.1 h,OkD M (e+2) (p.1*p.2)/\OkD M 1 p.1/\OkD M (e+1) p.2:=fun p hp=>by
 obtain⟨o,ho,rfl⟩:=yn.mp hp;have a1:=c _ _ (qi.mpr hh) (qi.mpr (he.keys o ho));have a2:=OkN.up ?A (bh ?A he.vals (x:=o)) ?A;exact⟨OkD.mono ?A (OkD.mul ?A a1 a2) ?A,a1,a2⟩
theorem IX (hM:32<=M){ch:?I}(c:ChD M L ch)(he:?Kb)(hn:n<=30)(hh:h∈L):OkD M (e+3) (u0 L ch a.1 h):=by
 have:=OkN.up ?A (kU ?A fun p hp=>(sE hM c he hn hh p hp).1) (by rw[xk];have:=he.len;lia);exact this
end
abbrev KS:=Kn×Kw
def vE (hs row L:?A0)(br:?A4)(ch:?I)(k:KS)(p:?J):KS:=(L.foldl (QU L ch (?wT).1 p.1 p.2) k.1,(?wT).2)
theorem Bg [DecidableEq κ]:∀ {ks:List κ} {xs:List α},ks.length=xs.length->p∈(?DY).zip ?Ew->p=(k,v)∨p∈ks.zip xs:=by
 intro ks xs hl h;unfold pK pA at h;by_cases hk:k∈ks
 .rw[yf hk,yf hk,←zip_map hl] at h;obtain⟨q,hq,e⟩:=yn.mp h;split at e
  .rename_i e2;exact .inl (by rw[←e,e2])
  .exact .inr (e▸hq)
 .rw[ye hk,ye hk,←UN hl] at h;rcases Yj.mp h with z|z
  .exact ?D5
  .exact ?Ht
structure KnG (M m:Nat)(kn:Kn):Prop where
 d:KnD M kn
 eq:kn.1.length=kn.2.length
 len:kn.1.length<=m
theorem KnG.put {t:Rat}(k:KnG M m kn)(ht:OkD M ?yW t):KnG M (m+1) ?Hw:=by
 refine⟨fun p hp=>?_,kj k.eq,yU xI (Qv k.len)⟩;rcases Bg k.eq hp with z|z
 .subst z;exact ht
 .exact k.d p z
theorem dL {ch:?I}:∀ {hs:List Str} {m:Nat} {kn:Kn},KnG M m kn->(∀ h∈hs,OkD M ?yW (u0 L ch e h))->KnG M (m+hs.length) (hs.foldl ?Ep kn)
 |[],m,kn,k,_=>k
 |h::hs,m,kn,k,ht=>by
  rw[Yz,yw,show m+(hs.length+1)=(m+1)+hs.length by lia];refine dL ?_ fun x hx=>ht x ?Ap;unfold QU;split
  .exact⟨k.d,k.eq,by have:=k.len;lia⟩
  .exact k.put (ht h (by simp))
structure GPar (M b:Nat)(hs row L:?A0)(br:?A4)(ch:?I):Prop where
 d:32<=M
 db:M<2 ^ b
 bl:b<=16500
 rl:row.length<=5
 br:BrG M hs L br
 ch:ChD M L ch
 nd:L.Nodup
 ll:L.length<=9
def eU (M m:Nat)(k:KS):Prop:=KnG M (m*30) k.1/\KwD M k.2/\k.2.length<=m*600000
theorem eU.settle {ch:?I}(g:?DE)(h:eU M m k)(hp:p.1<p.2/\p.2<=row.length):eU M (m+1) (vE hs row L br ch k p):=by
 obtain⟨h1,h2,h3⟩:=h;have rl:=g.rl;have bl:=g.br.len;have ll:=g.ll;have eo:=uS (row:=row) g.d h1.d g.br hp.1 ?A h2 br.length ?AH;rw[yI] at eo;refine⟨?_,eo.kw,?_⟩
 .have:=dL (L:=L) (ch:=ch) (e:=(?wT).1) (i:=p.1) (j:=p.2) (hs:=L) h1 fun x hx=>OkD.mono (by have:=g.d;lia) (IX g.d g.ch eo g.br.len hx) ?A;refine⟨this.d,this.eq,?_⟩;have:=this.len;show(L.foldl (QU L ch (?wT).1 p.1 p.2) k.1).1.length<=_;lia
 .have:=eo.kl;show(?wT).2.length<=_;unfold vn;lia
theorem eU.gs {ch:?I}(g:?DE)(h:eU M m k):GsOk ⟨a,b',c,gd,row,hs,br,L,ch,k.1,k.2⟩ M b:=⟨g.d,g.db,g.bl,g.rl,h.1.d,h.2.1⟩
theorem Cf {ch:?I}(g:?DE)(h:?Kb):a.1.1.length<=9:=yU (cM h.nd h.keys) g.ll
def Hu:?kZ:=fun t ds t' d=>∃ (i j M b m:Nat),ds=[.raw ?BV,.int (i:Int),.int (j:Int)]/\t'={t with kw:=(?N1).2}/\d=enD (?N1).1/\i<j/\j<=t.row.length/\GPar M b t.hs t.row t.L t.br t.ch/\eU M m (t.kn,t.kw)/\m<=20
def Ih:?kZ:=fun t ds t' d=>∃ (i j M b m:Nat),ds=[.raw ?BV,.int (i:Int),.int (j:Int)]/\t'={t with kn:=(vE t.hs t.row t.L t.br t.ch (t.kn,t.kw) ?D).1,kw:=(vE t.hs t.row t.L t.br t.ch (t.kn,t.kw) ?D).2}/\d=.non/\i<j/\j<=t.row.length/\GPar M b t.hs t.row t.L t.br t.ch/\eU M m (t.kn,t.kw)/\m<=20
theorem HL {P:?A6}{w:?A5}{K:?A1}{Cs:Addr}:∀ t ds t' d,Hu t ds t' d->(?Hl).map ?C=(?Fz).map ?C:=fun t ds t' d ⟨_,_,_,_,_,_,e,_⟩=>by subst e;rfl
theorem HH {P:?A6}{w:?A5}{K:?A1}{Cs:Addr}:∀ t ds t' d,Ih t ds t' d->(?Hl).map ?C=(?Fz).map ?C:=fun t ds t' d ⟨_,_,_,_,_,_,e,_⟩=>by subst e;rfl
section
theorem tF (h:V3 X B e Γ Ω fun d Ω1=>∃ ds,d=.lst ds/\RL ds Ω1):?HI:=fun F σ H S pins s I=>
 cP jl pins s σ H _ I ((?AP).mono fun v H1 ⟨d,Ω1,F1,S1,f1,i1,ds,ed,r⟩=>by
  subst ed;obtain⟨l,xs,rfl,s1,j1⟩:=ze i1;refine⟨l,rfl,⟨xs,?IE⟩,ds,Ω1,F1,S1,f1,fun n F2 H2 e1 e2=>?uD,r⟩;obtain⟨x,hx,ix⟩:=j1.get w;refine ?uQ;subst z;have:=w' xs ?yR;rw[hx] at this;cases this;exact ?Ff)
end
theorem xn:∀ {a b:List Str},a.map D.str=b.map D.str->a=b
 |[],[],_=>rfl
 |[],_::_,h=>by simp at h
 |_::_,[],h=>by simp at h
 |x::a,y::b,h=>by
  rw[yt,yt,List.cons.injEq] at h;rw[D.str.inj h.1,xn h.2]
theorem Kx(h:Yd a=Yd b):a=b:=xn (D.tup.inj h)
theorem nV(h:jS r=jS q):r=q:=by
 obtain⟨a,b,c⟩:=r;obtain⟨d,e,f⟩:=q;unfold jS at h;simp only[D.tup.injEq,List.cons.injEq,D.str.injEq,and_true] at h;rw[h.1,Kx h.2.1,bK h.2.2]
theorem xz:∀ {a b:List yC},yD a=yD b->a=b
 |[],[],_=>rfl
 |[],_::_,h=>by simp[yD] at h
 |_::_,[],h=>by simp[yD] at h
 |x::a,y::b,h=>by
  unfold yD at h;rw[yt,yt,List.cons.injEq] at h;rw[nV h.1,xz (a:=a) (b:=b) h.2]
theorem Bm {st st':Str}{rs rs':?A4}(h:gD C st rs=gD C st' rs'):st=st'/\rs=rs':=by
 unfold gD gDs at h;simp only[D.obj.injEq,List.cons.injEq,D.str.injEq,D.lst.injEq,true_and] at h;exact⟨h.1,xz h.2.1⟩
def ZP (rs:?A4)(row:?A0)(k:Nat):KS:=((?AT).take k).foldl (vE ?AJ row ?AA ?Ao ?B1) (?yL,[])
def knG (rs:?A4)(row:?A0):Kn:=(ZP rs row (?AT).length).1
theorem v5(h:(?AT)[k]?=some p):ZP rs row (k+1)=vE ?AJ row ?AA ?Ao ?B1 ?B6 (p.1,p.2):=by
 unfold ZP;rw[Yg h,y7];rfl
theorem vK(h:p∈Y7 n):p.1<p.2/\p.2<=n:=by
 unfold Y7 at h;obtain⟨l,hl,hp⟩:=Y1.mp h;obtain⟨i,hi,rfl⟩:=yn.mp hp;rw[qS] at hl hi;show i<i+l+1/\i+l+1<=n;lia
theorem ZZ(h:n<=5):(Y7 n).length<=15:=by
 rcases (show n=0∨n=1∨n=2∨n=3∨n=4∨n=5 by lia) with rfl|rfl|rfl|rfl|rfl|rfl <;> decide
structure SumG (rs:?A4)(row:?A0)(M b s:Nat):Prop where
 rl:rs.length<=30
 body:∀ r∈rs,r.2.1.length<=4
 keys:((?D7).map fun r=>?U).Nodup
 sz:∀ r∈rs,0<=r.2.2/\Sz s r.2.2
 s1:1<=s
 sk:sK s (?AA).length<=big
 piv:Piv (?AA).length (wM2 ?AA ?D7)
 par:GPar M b ?AJ row ?AA ?Ao ?B1
theorem Vt(g:?BT):∀ k,k<=(?AT).length->eU M k ?B6
 |0,_=>⟨⟨(fun p hp=>by cases hp),rfl,YC _⟩,(fun p hp=>by cases hp),YC _⟩
 |k+1,hk=>by
  have hp:(Y7 row.length)[k]?=some (Y7 row.length)[k]:=yl ?A;rw[v5 hp];exact(Vt g k ?A).settle g.par (vK (yx hp))
def sGs (Cg:Addr)(st:Str)(rs:?A4)(row:?A0)(c:Addr):?A7:=[gD Cg st rs,Yd row,.lst ?D8,.lst (yD ?Ao),chD ?AA ?B1,knD ?As,.raw (.ref c)]
def fS (Cg:Addr):?zM:=fun ds=>∃ (st:Str) (rs:List yC) (row:List Str) (M b s:Nat),ds=[gD Cg st rs,Yd row]/\SumG rs row M b s
def bH (Cg:Addr):?wW:=fun ds r=>∀ (st:Str) (rs:List yC) (row:List Str),ds=[gD Cg st rs,Yd row]->∃ c,r=(sF,?K1)
theorem tL {st:Str}{rs:?A4}{row:?A0}:bH Cg [gD Cg st rs,Yd row] (sF,?K1):=fun st' rs' row' h=>by
 simp only[List.cons.injEq,and_true] at h;obtain⟨e1,e2⟩:=Bm h.1;rw[←e1,←e2,←Kx h.2];exact⟨c,rfl⟩
def LV (K:?A1)(Ω:Om)(d d':D):Prop:=∀ (B:Bs) (Γ:Ga) (F:Hp) (σ:L2.St) (H:Hp),Sat K B Γ Ω F σ H->∀ v,Is K F d v->Is K ?Bp d' v
def LVL (K:?A1)(Ω:Om)(ds ds':?A7):Prop:=∀ (B:Bs) (Γ:Ga) (F:Hp) (σ:L2.St) (H:Hp),Sat K B Γ Ω F σ H->∀ vs,IsL K F ds vs->IsL K ?Bp ds' vs
section
variable {K:?A1}{Ω:Om}{d d':D}{ds ds':?A7}{a:Addr}
theorem jc:LV K Ω d d:=fun _ _ _ _ _ S _ i=>i.mono S.addSame
theorem Q6:LVL K Ω ds ds:=fun _ _ _ _ _ S _ i=>i.mono S.addSame
theorem Y6 (h:LV K Ω d d')(t:?Hn):LVL K Ω (d::ds) (d'::ds'):=fun B Γ F σ H S vs i=>by
 simp only[IsL] at i ⊢;obtain⟨x,r,e,i1,i2⟩:=i;exact⟨x,r,e,h B Γ F σ H S x i1,t B Γ F σ H S r i2⟩
theorem vO {C:Addr}{fs:?A0}(m:(a,?LG)∈Ω)(h:?Hn):LV K Ω ?Av (.obj C fs ds'):=fun B Γ F σ H S v i=>by
 cases isR i;obtain⟨o,h1,dx,xs,rfl,hl,il⟩:=S.addAt m;simp only[Is];exact⟨a,dx,xs,rfl,h1,hl,?Jg⟩
theorem fQ {ks:?EE}(m:(a,oDt K ks ds)∈Ω)(h:?Hn):LV K Ω ?Av (.dt ks ds'):=fun B Γ F σ H S v i=>by
 cases isR i;obtain⟨o,h1,xs,rfl,hl,il⟩:=S.addAt m;simp only[Is];exact⟨a,xs,rfl,.inl h1,hl,?Jg⟩
theorem Gn (m:(a,?Gp)∈Ω)(h:?Hn):LV K Ω ?Av (.lst ds'):=fun B Γ F σ H S v i=>by
 cases isR i;obtain⟨o,h1,xs,rfl,il⟩:=S.addAt m;exact Is.lstI (.inl h1) ?Jg
theorem ve {B:Bs}{Γ Γ':Ga}{i:Nat}(h:?KJ)(hi:Γ[i]?=some ?D2)(l:LV K Ω d d'):xX K B Ω Γ (Γ'.set i (some d')):=fun F σ H S n e q=>by
 rw[qN] at q;by_cases hn:i=n
 .rw[yf hn] at q;split at q
  .cases q;subst hn;obtain⟨v,e1,e2⟩:=S.sl i _ hi;exact⟨v,e1,l B Γ F σ H S v e2⟩
  .cases q
 .rw[ye hn] at q;exact h F σ H S n e q
end
abbrev Hb:=List Str×Addr×List ?K
abbrev Hs:=?J×Addr×List Hb
def kBd (b:?A0):?Az:=b.map fun x=>.inl (.inr x)
def kP (p:?J):?Az:=[.inl (.inl (p.1:Int)),.inl (.inl (p.2:Int))]
theorem sM {b:?A0}:kD (kBd b)=Yd b:=by
 unfold kD kBd Yd;rw[YB];rfl
theorem Iy {p:?J}:kD (kP p)=Zg p:=rfl
theorem nq:∀ {a b:List Str},kBd a=kBd b->a=b
 |[],[],_=>rfl
 |[],_::_,h=>by simp[kBd] at h
 |_::_,[],h=>by simp[kBd] at h
 |x::a,y::b,h=>by
  unfold kBd at h;rw[yt,yt,List.cons.injEq] at h;have e1:x=y:=by simpa using h.1
  rw[e1,nq (a:=a) (b:=b) h.2]
theorem As {p q:?J}(h:kP p=kP q):p=q:=by
 unfold kP at h;simp only[List.cons.injEq,Sum.inl.injEq,and_true,Int.ofNat_inj] at h;exact Prod.ext h.1 h.2
def hbV (x:Hb):List K2×D:=(kBd x.1,.raw (.ref x.2.1))
def hsV (s:Hs):List K2×D:=(kP s.1,.raw (.ref s.2.1))
def iY (P:?A6)(w:?A5)(K:?A1)(s:Hs):Om:=?tB::s.2.2.map fun x=>(x.2.1,YW K (x.2.2.map Y4))
def omH (P:?A6)(w:?A5)(K:?A1)(hs:?B0):Om:=hs.flatMap (iY P w K)
theorem XT {P:?A6}{w:?A5}{K:?A1}{l1 l2:?B0}{s:Hs}:(omH P w K (l1++s::l2)).Perm (iY P w K s++?kX):=by
 unfold omH;rw[Qk,Qt,←QX,←QX];exact ?NP
theorem K6 {p:?J}:∀ {hs:List Hs},atD (hs.map hsV) (kP p)=(hs.find? fun s=>decide (s.1=p)).map fun s=>.raw (.ref s.2.1)
 |[]=>rfl
 |s::hs=>by
  have ih:=K6 (p:=p) (hs:=hs);unfold atD at ih ⊢;rw[yt,yS,yS];by_cases e:s.1=p
  .have e':(hsV s).1=kP p:=by show kP s.1=kP p;rw[e]
   rw[yL e,yL e'];rfl
  .have e':¬ (hsV s).1=kP p:=fun z=>e (As z);rw[yA e,yA e'];exact ih
theorem WO {b:?A0}:∀ {bs:List Hb},atD (bs.map hbV) (kBd b)=(bs.find? fun x=>decide (x.1=b)).map fun x=>.raw (.ref x.2.1)
 |[]=>rfl
 |x::bs=>by
  have ih:=WO (b:=b) (bs:=bs);unfold atD at ih ⊢;rw[yt,yS,yS];by_cases e:x.1=b
  .have e':(hbV x).1=kBd b:=by show kBd x.1=kBd b;rw[e]
   rw[yL e,yL e'];rfl
  .have e':¬ (hbV x).1=kBd b:=fun z=>e (nq z);rw[yA e,yA e'];exact ih
abbrev Eb:=List Str×List ?K
abbrev Es:=?J×List Eb
def erB (x:Hb):Eb:=(x.1,x.2.2)
def erS (s:Hs):Es:=(s.1,s.2.2.map erB)
def ZH:List Eb->List Str->Rat×Rat->List Eb
 |[],b,pr=>[(b,[pr])]
 |x::bs,b,pr=>if x.1=b then (x.1,x.2++[pr])::bs else x::ZH bs b pr
def wQ:List Es->Nat×Nat->List Str->Rat×Rat->List Es
 |[],_,_,_=>[]
 |s::es,p,b,pr=>if s.1=p then ?xU::es else s::wQ es p b pr
theorem Zo {α:Type}{f:α->Bool}{x:α}:∀ {l:List α},l.find? f=some x->∃ l1 l2,l=l1++x::l2/\(∀ y∈l1,f y=false)/\f x=true
 |[],h=>by simp at h
 |y::l,h=>by
  rw[yS] at h;cases e:f y with
  |true=>rw[e] at h;cases h;exact⟨[],l,rfl,fun z hz=>absurd hz (by simp),e⟩
  |false=>
   rw[e] at h;obtain⟨l1,l2,h1,h2,h3⟩:=Zo h;refine⟨y::l1,l2,by rw[h1];rfl,fun z hz=>?_,h3⟩;rcases yG.mp hz with q|q
   .rw[q];exact e
   .exact h2 z q
theorem dH {b:?A0}{pr:?K}{x:Eb}{l2:List Eb}(hx:x.1=b):∀ {l1:List Eb},(∀ y∈l1,y.1≠b)->ZH (l1++x::l2) b pr=l1++(x.1,x.2++[pr])::l2
 |[],_=>by show(if x.1=b then _ else _)=_;rw[yf hx];rfl
 |y::l1,h=>by
  show(if y.1=b then _ else y::ZH (l1++x::l2) b pr)=_;rw[ye (h y (by simp)),dH hx fun z hz=>h z (yb _ hz)];rfl
theorem fV {b:?A0}{pr:?K}:∀ {bs:List Eb},(∀ y∈bs,y.1≠b)->ZH bs b pr=bs++[(b,[pr])]
 |[],_=>rfl
 |y::bs,h=>by
  show(if y.1=b then _ else y::ZH bs b pr)=_;rw[ye (h y (by simp)),fV fun z hz=>h z (yb _ hz)];rfl
theorem aW {p:?J}{b:?A0}{pr:?K}{s:Es}{l2:?AU}(hs:s.1=p):∀ {l1:List Es},(∀ y∈l1,y.1≠p)->wQ (l1++s::l2) p b pr=l1++?xU::l2
 |[],_=>by show(if s.1=p then _ else _)=_;rw[yf hs];rfl
 |y::l1,h=>by
  show(if y.1=p then _ else y::wQ (l1++s::l2) p b pr)=_;rw[ye (h y (by simp)),aW hs fun z hz=>h z (yb _ hz)];rfl
section
variable {X:Cx}{B:Bs}{Γ:Ga}{Ω:Om}{o a:Expr}{es:?AW}{d:D}{ds:?A7}{kt:?Ka}{ks:?Aj}{pos tpos p:Pos}{R:?X}
end
section
variable {τ:Type}{om:τ->Om}{C0:τ->List D->Prop}{C:?yB}
variable {X:Cx}{B:Bs}{Γ:Ga}{Ω Ω4:Om}{e:Expr}{es:?AW}{ds:?A7}{n k:Nat}{x:Str}{ps:?A0}{p pos:Pos}{R:?X}{t:τ}
end
section
variable {X:Cx}{B:Bs}{Γ:Ga}{Ω:Om}{a b:Expr}{d:D}{ds:?A7}{pos p:Pos}{R:?X}
end
def spN {τ:Type}(K:?A1)(n:Nat)(om:τ->Om)(C0:τ->List D->Prop)(C:?yB):Sp:=fun vs H Q _=>∃ t ds F,C0 t ds/\ds.length=n/\Yh F H/\IsL K F ds vs/\((om t).map ?C).Nodup/\(∀ p∈om t,F p.1=none/\∃ o,H p.1=some o/\∀ F',Yh F F'->p.2 F' o)/\
 ∀ t' d,C t ds t' d->∀ v H' F',Yh F F'->Yh F' H'->(∀ b o,b∉(om t).map ?C->H b=some o->H' b=some o)->(∀ b,F' b≠none->F b≠none∨H b=none∨b∈(om t).map ?C)->((om t').map ?C).Nodup->(∀ p∈om t',(p.1∈(om t).map ?C∨H p.1=none)/\F' p.1=none/\∃ o,H' p.1=some o/\∀ F2,Yh F' F2->p.2 F2 o)->Is K F' d v->Q v H'
theorem spN.len {τ:Type}{K:?A1}{n:Nat}{om:τ->Om}{C0:τ->List D->Prop}{C:?yB}{vs:?AL}{H:Hp}{Q:VK}{E:XK}(h:?O6):?wI:=by
 obtain⟨t,ds,F,_,l,_,i,_⟩:=h;rw[i.len,l]
section
variable {τ:Type}{om:τ->Om}{C0:τ->List D->Prop}{C:?yB}
abbrev EN (om:τ->Om)(C:?yB)(t:τ)(ds:?A7):E3:=⟨fun _ Ω=>∃ t' Ω5,C t ds t' .non/\Ω.Perm (om t'++Ω5),fun r Ω=>∃ t' Ω5,C t ds t' r/\Ω.Perm (om t'++Ω5),fun _ _=>?AC,fun _ _=>?AC⟩
theorem sC {P:?A6}{w:?A5}{K:?A1}{mg:?G}{base:Heap}{q:Str}{st:Stmt}{N:?A0}{k n:Nat}
  (body:∀ (f:Addr) (cdv:Value) (A:Around) (outer:List Env) (s:Shared) (H:Hp) (E:XK),Room k ?CI->∀ (t:τ) (ds:List D),C0 t ds->∀ B:Bs,
   W3 ?C3 B ?Ae ?Bz (om t) ?IT)
  {f:Addr} {cdv:?AK} {A:?Ad} {outer:?CU} {s:?AI} {H:Hp} {vs:?AL} {Q:VK} {E:XK} (hr:Room k ?CI) (h:?O6):WS ?C3 ?Ae {nx:=fun _ H'=>?Aq,rt:=Q} ?Cw H:=by
 obtain⟨t,ds,F,hC,hl,fh,il,nd,own,q⟩:=h;have S0:Sat K (⟨(om t).map (fun p:Addr×Ow=>p.1),F,H⟩:Bs) (jw N ds) (om t) F (L2.start N vs) H:=
  ⟨?AE,fh,fun _ q=>?Bk,fun _ _ _ e=>e,nd,fun p hp=>.inl ?GF,own,Sl.start il⟩
 have fin:∀ {t':τ} {r:D} {Ω' Ω5:Om} {F' H':Hp} {σ':L2.St} {Γ':Ga} {v:V},C t ds t' r->Ω'.Perm (om t'++Ω5)->Sat K (?wQ:Bs) Γ' Ω' F' σ' H'->Is K F' r v->Q v H':=by
  intro t' r Ω' Ω5 F' H' σ' Γ' v hc pm S' iv;have S2:=S'.perm pm.symm;have nd2:=S2.nd;rw[yk] at nd2;exact q t' r hc v H' F' S'.f0 S'.fh (fun b o hb e=>S'.kp b o hb e) (fun b hb=>S'.fr b hb) (?Ip).1 (fun p hp=>⟨S2.od p ?Gu,?GI⟩) iv
 refine Qs (D:=E3.to K (?wQ:Bs) F ?IT) (D':={nx:=fun _ H'=>?Aq,rt:=Q}) ?_ ?_ ?_ ?_ (body f cdv A outer s H E hr t ds hC (?wQ:Bs) F _ H S0)
 .rintro σ' H' ⟨Γ',Ω',F',S',f',t',Ω5,e1,e2⟩;exact fin e1 e2 S' (lK F')
 .rintro v H' ⟨d',Ω',F',⟨σ',S'⟩,f',i',t',Ω5,e1,e2⟩;exact fin e1 e2 S' i'
 .rintro σ' H' ⟨_,_,_,_,_,z⟩;exact ?AR
 .rintro σ' H' ⟨_,_,_,_,_,z⟩;exact ?AR
theorem By {P:?A6}{w:?A5}{K:?A1}{mg:?G}{base:Heap}{m q:Str}{st:Stmt}{N ps:?A0}{k n:Nat}{Cc:Addr}(d:?Hc)(S:?BW)(hn:?yI)
  (body:∀ (f:Addr) (cdv:Value) (A:Around) (outer:List Env) (s:Shared) (H:Hp) (E:XK),Room k ?CI->∀ (t:τ) (ds:List D),C0 t ds->∀ B:Bs,
   W3 ?C3 B ?Ae ?Bz (om t) ?IT):OkM P w K mg base CX0 (k+1) Cc m ps (spN K n om C0 C):=
 d.ok S (fun vs H Q E h=>(spN.len h).trans hn.symm) fun f cdv A outer s H vs Q E hr h=>?Ny
theorem GY {P:?A6}{w:?A5}{K:?A1}{mg:?G}{base:Heap}{x q:Str}{st:Stmt}{N ps:?A0}{k n:Nat}{Cc:Addr}(d:?OO)(S:?BW)(hn:?yI)
  (body:∀ (f:Addr) (cdv:Value) (A:Around) (outer:List Env) (s:Shared) (H:Hp) (E:XK),Room k ?CI->∀ (t:τ) (ds:List D),C0 t ds->∀ B:Bs,
   W3 ?C3 B ?Ae ?Bz (om t) ?IT):OkI P w K mg base CX0 (k+1) x Cc ps (spN K n om C0 C):=
 d.ok S (fun vs H Q E h=>(spN.len h).trans hn.symm) fun f cdv A outer s H vs Q E hr h=>?Ny
variable {X:Cx}{B:Bs}{Γ:Ga}{Ω Ω4:Om}{e o:Expr}{es:?AW}{ds gs:?A7}{n k:Nat}{x m:Str}{ps fs:?A0}{Cc a:Addr}{p pos apos:Pos}{R:?X}{t:τ}
theorem Sat.back' {K:?A1}{F2 F':Hp}{σ:?AY}{H2 H':Hp}{t':τ}(S2:Sat K B Γ (om t++Ω4) F2 σ H2)(g1:Yh F2 F')(g2:Yh F' H')(g3:∀ b o,b∉(om t).map ?C->H2 b=some o->H' b=some o)(g4:∀ b,F' b≠none->F2 b≠none∨H2 b=none∨b∈(om t).map ?C)(g5:((om t').map ?C).Nodup)(g6:∀ p∈om t',(p.1∈(om t).map ?C∨H2 p.1=none)/\F' p.1=none/\∃ o,H' p.1=some o/\∀ F3,Yh F' F3->p.2 F3 o):Sat K B Γ ?jC F' σ H':=by
 have nd2:=S2.nd;rw[yk] at nd2;have nds:=Ye.mp nd2;have off:∀ p∈Ω4,p.1∉(om t).map ?C:=fun p hp y=>nds.2.2 _ y _ ?GF rfl;have odt:∀ b∈(om t).map ?C,b∈B.M∨B.H b=none:=fun b hb=>by
  obtain⟨p,hp,rfl⟩:=yn.mp hb;exact S2.od p ?Gu
 refine⟨?LW,g2,fun b hb=>?_,fun b o hb e=>?_,?_,fun p hp=>?_,fun p hp=>?_,?Lp⟩
 .rcases g4 b hb with z|z|z
  .exact S2.fr b z
  .exact(?M7).elim (fun w=>?II) fun w=>.inr (.inr w)
  .exact(odt b z).elim (fun w=>.inr (.inr w)) fun w=>.inr (.inl w)
 .refine g3 b o (fun z=>?_) ?LK;rcases odt b z with z|z
  .exact hb z
  .rw[z] at e;cases e
 .rw[yk,Ye];refine⟨g5,nds.2.1,fun u hu v hv e=>?_⟩;obtain⟨p,hp,rfl⟩:=yn.mp hu;obtain⟨q,hq,rfl⟩:=yn.mp hv;rcases (g6 p hp).1 with z|z
  .exact off q hq (e▸z)
  .obtain⟨_,o2,h2,_⟩:=S2.own q (yF _ hq);rw[←e,z] at h2;cases h2
 .rcases Yj.mp hp with z|z
  .rcases (g6 p z).1 with y|y
   .exact odt _ y
   .exact(S2.freeB y).elim .inr .inl
  .exact S2.od p ?EQ
 .rcases Yj.mp hp with z|z
  .exact(g6 p z).2
  .obtain⟨h1,o2,h2,h3⟩:=S2.own p ?EQ;refine⟨?_,o2,g3 _ _ (off p z) h2,fun F3 e3=>?Ju⟩;cases zz:F' p.1 with
   |none=>rfl
   |some u=>
    rcases g4 p.1 (by rw[zz];simp) with y|y|y
    .exact absurd h1 y
    .rw[h2] at y;cases y
    .exact absurd y (off p z)
theorem ZQ (t:τ)(Ω4:Om){pl:?Gi}(ok:OkM X.prog X.w X.K X.mg X.base CX0 k Cc m ps ?Pd)(c:?E3)(hr:?Am)(ho:V3 X B o Γ Ω fun dq Ω0=>dq=.raw ?AB/\(a,?Kz)∈Ω0/\VL3 X B (e::es) Γ Ω0 fun ds Ω1=>Ω1.Perm (om t++Ω4)/\C0 t ?zJ/\ds.length+1=n/\∀ t' d,C t ?zJ t' d->R d ?jC)(hf:m∉fs)
  (hst:?T:=by rfl) (hpl:?zA:=by rfl)
  (ht:eval ?yO X.env=(do
   let ov ←eval o X.env
   standAt apos.atName
   let ?yJ ←holding [ov] (getMethod ov m pl)
   callWith pos f first ?wU ?zZ):=by rfl):?KF:=fun F σ H S pins s I=>by
 obtain⟨f,fd,Fn,hM,hb⟩:=ok;refine ?tV;subst e1;cases isR i1;obtain⟨fa,o1,ha1,ho1⟩:=S1.own _ hin;obtain⟨dx,xs,rfl,hl,il⟩:=ho1 F1 ?AE;refine⟨a,dx,_,rfl,ha1,ZC hf,(?Ba).mono fun us H2 ⟨ds,Ω1,F2,S2',f2,i2,pm,h0,hn,r⟩=>?_⟩;rw[yM];have S2:=S2'.perm pm.symm;have nd2:=S2.nd;rw[yk] at nd2;exact⟨t,?zJ,F2,h0,?xW,S2.fh,?KB,(?Ip).1,fun p hp=>?GI,fun t' d hC v H' F' g1 g2 g3 g4 g5 g6 iv=>⟨d,?jC,F',?Na,?OJ,iv,r t' d hC⟩⟩
theorem cA (tm:Addr->τ)(ok:OkI X.prog X.w X.K X.mg X.base CX0 k x Cc ps ?Pd)(hr:?vL)(hg:?Ai)(ha:?yT)(hom:∀ a,om (tm a)=[(a,zi X.K Cc [] [])])(h0:∀ a,C0 (tm a) ?zJ)(r:∀ a t' d,C (tm a) ?zJ t' d->d=.non/\R ?Av (om t'++Ω))(hn:?vQ:=by rfl)(hdb:?L:=by decide)
  (he:?T:=by rfl) (hpl:?zA:=by rfl):?HU:=fun F σ H S pins s I=>by
 obtain⟨f,fd,Fn,M,hm,hb⟩:=ok;refine ?tX;rw[yM];have S1:=S.pur p1;have sm:Yh H1 (upd (upd H1 dx (.own a)) a (.ins Cc dx [])):=fun b u e1=>by
  rw[yR (Yo e1 ha'),yR (Yo e1 hdx)];exact e1
 have S2:Sat X.K B Γ (om (tm a)++Ω) F1 σ (upd (upd H1 dx (.own a)) a (.ins Cc dx [])):=by
  rw[hom];exact S1.new ⟨?AE,S1.fh.trans sm,sm,fun b q=>?Bk⟩ ha' (S1.fh.free ha') yX fun F2 e2=>⟨dx,[],rfl,rfl,?CR⟩
 have nd2:=S2.nd;rw[yk] at nd2;refine⟨tm a,?zJ,F1,h0 a,?xW,S2.fh,IsL.cons (ZD F1) i1,(?Ip).1,fun p hp=>?GI,fun t' d hC v H' F' g1 g2 g3 g4 g5 g6 iv=>?_⟩;obtain⟨rfl,r'⟩:=r a t' d hC;exact⟨isN iv,?Av,om t'++Ω,F',?Na,p1.ff.trans g1,ZD F',r'⟩
end
theorem Dv {f g:?W}(h:∀ j,j<n->f j<=g j):qX n f<=qX n g:=by
 induction n with
 |zero=>exact qr
 |succ n ih=>rw[qX,qX];have:=ih (fun j hj=>h j ?A);have:=h n ?A;grind
theorem nE {f:?W}(h:∀ j,j<n->0<=f j):0<=qX n f:=by
 have:=Dv (f:=fun _=>0) (g:=f) (n:=n) h
 rwa [Kt (f:=fun _=>0) fun _ _=>rfl] at this
theorem eZ {f:?W}(h:∀ j,j<n->0<=f j)(hk:k<n):f k<=qX n f:=by
 have e:=W1 (f:=f) hk;have:0<=qX n ?tL:=nE fun j hj=>by
  split
  .exact qr
  .exact h j hj
 grind
theorem WC {a b c:Rat}(h:a<b)(hc:0<c):a*c<b*c:=Rat.mul_lt_mul_of_pos_right h hc
theorem eL {a b c:Rat}(h:a<=b)(hc:0<=c):a*c<=b*c:=QP h hc
structure PvI (n:Nat)(v:?W)(E:?I):Prop where
 nn:∀ i j,i<n->j<n->0<=E i j
 lt:∀ i,i<n->qX n (fun j=>E i j*v j)<v i
theorem PvI.piv {v:?W}{E:?I}(hv:∀ i,i<n->0<v i)(h:PvI n v E)(hk:k<n):E k k<1:=by
 have a:=eZ (f:=fun j=>E k j*v j) (fun j hj=>Rat.mul_nonneg (h.nn k j hk hj) (YH (hv j hj))) hk;have b:=h.lt k hk;have c:E k k*v k<1*v k:=by grind
 exact Rat.lt_of_mul_lt_mul_right c (YH (hv k hk))
theorem FP {a b c:Rat}(hc:0<c)(h:a<b*c):a / c<b:=by
 have:a*c⁻¹<b*c*c⁻¹:=WC h (Rat.inv_pos.mpr hc);rw[Rat.mul_assoc,Rat.mul_inv_cancel _ (by grind),Rat.mul_one] at this;rw[jO];exact this
theorem PvI.step {n k:Nat}{v:?W}{E:?I}(hv:∀ i,i<n->0<v i)(h:PvI n v E)(hk:k<n):PvI n v (KH E k):=by
 have p:=h.piv hv hk;have p1:=kG p;have ne:1 - E k k≠0:=by grind
 have row:∀ c:Nat->Rat,qX n (fun j=>(if j=k then 0 else c j)*v j)=qX n (fun j=>c j*v j) - c k*v k:=fun c=>by
  rw[←W1 (f:=fun j=>c j*v j) hk];refine JS fun j _=>?_;by_cases hj:j=k
  .rw[yf hj,yf hj];grind
  .rw[ye hj,ye hj]
 have g:qX n (fun j=>E k j / ?yH*v j)=qX n (fun j=>E k j*v j) / (1 - E k k):=by
  have:qX n (fun j=>E k j / ?yH*v j)=qX n (fun j=>(1 / ?yH)*(E k j*v j)):=JS fun j _=>by grind
  rw[this,dC];grind
 have lk:=h.lt k hk;have q:(qX n (fun j=>E k j*v j) - E k k*v k) / (1 - E k k)<v k:=FP p1 (by grind);have dn:∀ j,j<n->0<=E k j / ?yH:=fun j hj=>uz (h.nn k j hk hj) p1;constructor
 .intro i j hi hj;unfold KH;split
  .split
   .exact qr
   .exact dn j hj
  .split
   .exact qr
   .exact ky (h.nn i j hi hj) (ZB (h.nn i k hi hk) (dn j hj))
 .intro i hi;by_cases hik:i=k
  .subst hik;have e1:(fun j=>KH E i i j*v j)=fun j=>(if j=i then 0 else E i j / (1 - E i i))*v j:=by
    funext j;unfold KH;rw[yf rfl]
   rw[e1,row (fun j=>E i j / (1 - E i i)),g];grind
  .have e1:(fun j=>KH E k i j*v j)=fun j=>(if j=k then 0 else E i j+E i k*(E k j / ?yH))*v j:=by
    funext j;unfold KH;rw[ye hik]
   have e3:qX n (fun j=>(E i j+E i k*(E k j / ?yH))*v j)=qX n (fun j=>E i j*v j)+E i k*(qX n (fun j=>E k j*v j) / (1 - E k k)):=by
    rw[←g,←dC,←xP];exact JS fun j _=>by grind
   rw[e1,row (fun j=>E i j+E i k*(E k j / ?yH)),e3];have li:=h.lt i hi;have m:=eL (YH q) (h.nn i k hi hk);grind
theorem Gq {W:?I}{v:?W}(hv:∀ i,i<n->0<v i)(h:PvI n v W):Piv n W:=by
 have go:∀ k,k<=n->PvI n v (EK W k):=fun k=>by
  induction k with
  |zero=>intro _;exact h
  |succ k ih=>intro hk;exact(ih ?A).step hv ?A
 intro k hk;exact(go k ?A).piv hv hk
def pw (e:Rat):Nat->Rat
 |0=>1
 |k+1=>e*pw e k
theorem aU {e:Rat}(h:0<e):∀ k,0<pw e k
 |0=>by show(0:Rat)<1;decide
 |k+1=>Rat.mul_pos h (aU h k)
theorem ma {e:Rat}(h:0<e)(h1:e<1){k:Nat}:pw e (k+1)<pw e k:=by
 have:=WC h1 (aU h k);rw[pw];grind
theorem mY {e:Rat}(h:0<e)(h1:e<1):∀ {m k:Nat},k<=m->pw e m<=pw e k
 |0,k,hk=>by rw[Nat.le_zero.mp hk];exact qr
 |m+1,k,hk=>by
  rcases JN k (m+1) with h2|h2
  .have a:=mY h h1 (m:=m) (k:=k) ?A;have b:=ma h h1 (k:=m);grind
  .rw[show k=m+1 by lia];exact qr
theorem AW {n:Nat}{W:?I}{ρ:Nat->Nat}(hW:∀ i j,i<n->j<n->0<=W i j)(hs:∀ i,i<n->qX n (W i)<=1)(h:∀ i,i<n->qX n (W i)<1∨∃ j,j<n/\0<W i j/\ρ j<ρ i):Piv n W:=by
 have eps:∃ e:Rat,0<e/\e<1/\∀ i,i<n->e<1 - qX n (W i)∨∃ j,j<n/\e<W i j/\ρ j<ρ i:=by
  have go:∀ m,m<=n->∃ e:Rat,0<e/\e<1/\∀ i,i<m->e<1 - qX n (W i)∨∃ j,j<n/\e<W i j/\ρ j<ρ i:=fun m=>by
   induction m with
   |zero=>intro _;exact⟨1 / 2,?E,?E,fun i hi=>?A⟩
   |succ m ih=>
    intro hm;obtain⟨e,e0,e1,he⟩:=ih ?A;have Dj:∃ d:Rat,0<d/\(d<1 - qX n (W m)∨∃ j,j<n/\d<W m j/\ρ j<ρ m):=by
     rcases h m (by lia) with z|⟨j,hj,hp,hr⟩
     .exact⟨(1 - qX n (W m)) / 2,by grind,.inl (by grind)⟩
     .exact⟨W m j / 2,by grind,.inr ⟨j,hj,by grind,hr⟩⟩
    obtain⟨d,d0,hd⟩:=Dj;by_cases hed:e<=d
    .refine⟨e,e0,e1,fun i hi=>?_⟩;rcases JN i m with hlt|hge
     .exact he i hlt
     .have:i=m:=by lia
      subst this;rcases hd with z|⟨j,hj,hp,hr⟩
      .exact .inl (by grind)
      .exact .inr ⟨j,hj,by grind,hr⟩
    .refine⟨d,d0,by grind,fun i hi=>?_⟩;rcases JN i m with hlt|hge
     .rcases he i hlt with z|⟨j,hj,hp,hr⟩
      .exact .inl (by grind)
      .exact .inr ⟨j,hj,by grind,hr⟩
     .have:i=m:=by lia
      subst this;exact hd
  exact go n ?AH
 obtain⟨e,e0,e1,he⟩:=eps;have ple:∀ k,pw e (k+1)<1:=fun k=>by
  have a:=ma e0 e1 (k:=k);have b:=mY e0 e1 (m:=k) (k:=0) ?A;rw[show pw e 0=1 from rfl] at b;grind
 refine Gq (v:=fun i=>1 - pw e (ρ i+1)) (fun i hi=>by have:=ple (ρ i);grind) ⟨hW,fun i hi=>?_⟩;have split:qX n (fun j=>W i j*(1 - pw e (ρ j+1)))=qX n (W i) - qX n (fun j=>W i j*pw e (ρ j+1)):=by
  have:qX n (W i)=qX n (fun j=>W i j*(1 - pw e (ρ j+1)))+qX n (fun j=>W i j*pw e (ρ j+1)):=by
   rw[←xP];exact JS fun j _=>by grind
  grind
 rw[split];have nn:∀ j,j<n->0<=W i j*pw e (ρ j+1):=fun j hj=>Rat.mul_nonneg (hW i j hi hj) (YH (aU e0 _));rcases he i hi with z|⟨j,hj,hp,hr⟩
 .have a:=nE nn;have b:pw e (ρ i+1)<=e:=by
   have:=mY e0 e1 (m:=ρ i+1) (k:=1) ?A;rw[show pw e 1=e*1 from rfl] at this;grind
  grind
 .have a:=eZ nn hj;have b:=hs i hi;have c:pw e (ρ i)<=pw e (ρ j+1):=mY e0 e1 ?A;have d:=WC hp (aU e0 (ρ i));have f:W i j*pw e (ρ i)<=W i j*pw e (ρ j+1):=by
   have:=eL c (hW i j hi hj);grind
  have g:pw e (ρ i+1)=e*pw e (ρ i):=rfl;grind
def Rk (hs:?A0)(rs:?A4):Nat->Str->Prop
 |0,_=>False
 |n+1,h=>∃ r∈rs,r.1=h/\∀ x∈r.2.1,x∈hs->Rk hs rs n x
theorem Rk.succ:∀ {n:Nat} {h:Str},Rk hs rs n h->Rk hs rs (n+1) h
 |0,_,k=>k.elim
 |n+1,h,k=>by
  obtain⟨r,hr,e,hb⟩:=k;exact⟨r,hr,e,fun x hx hh=>Rk.succ ?F4⟩
theorem Rk.mono(k:Rk hs rs n h)(l:n<=m):Rk hs rs m h:=by
 induction m with
 |zero=>rw[Nat.le_zero.mp l] at k;exact k
 |succ m ih=>
  rcases JN n (m+1) with z|z
  .exact(ih ?A).succ
  .rw[show m+1=n by lia];exact k
theorem Rk.live:∀ {n:Nat} {h:Str},Rk hs rs n h->Live hs rs h
 |0,_,k=>k.elim
 |n+1,h,k=>by
  obtain⟨r,hr,e,hb⟩:=k;rw[←e];exact .mk r hr fun x hx hh=>Rk.live ?F4
theorem rU:∀ {b:List Str},(∀ x∈b,x∈hs->∃ n,Rk hs rs n x)->∃ n,∀ x∈b,x∈hs->Rk hs rs n x
 |[],_=>⟨0,fun x hx=>by cases hx⟩
 |y::b,h=>by
  obtain⟨n,hn⟩:=rU (b:=b) fun x hx=>h x ?Ap;by_cases hy:y∈hs
  .obtain⟨k,hk⟩:=h y (by simp) hy;refine⟨max n k,fun x hx qx=>?_⟩;rcases yG.mp hx with z|z
   .exact z▸hk.mono (Nat.le_max_right ..)
   .exact(hn x z qx).mono (Nat.le_max_left ..)
  .refine⟨n,fun x hx qx=>?_⟩;rcases yG.mp hx with z|z
   .exact absurd (z▸qx) hy
   .exact hn x z qx
theorem GS(l:Live hs rs h):∃ n,Rk hs rs n h:=by
 induction l with
 |mk r hr hb ih=>
  obtain⟨n,hn⟩:=rU (b:=r.2.1) fun x hx hh=>ih x hx hh;exact⟨n+1,r,hr,rfl,hn⟩
theorem BS {p:Nat->Prop}(h:∃ n,p n):∃ n,p n/\∀ m,p m->n<=m:=by
 obtain⟨n,hn⟩:=h
 induction n using Nat.strongRecOn with
 |ind n ih=>
  by_cases q:∃ m,m<n/\p m
  .obtain⟨m,h1,h2⟩:=q;exact ih m h1 h2
  .exact⟨n,hn,fun m hm=>Nat.le_of_not_lt fun z=>q ⟨m,z,hm⟩⟩
open Classical in
def fM (hs:List Str)(rs:List yC)(h:Str):Nat:=if e:∃ n,Rk hs rs n h then (BS e).choose else 0
theorem m6 {hs:?A0}{rs:?A4}{h:Str}(e:∃ n,Rk hs rs n h):Rk hs rs (fM hs rs h) h/\∀ m,Rk hs rs m h->fM hs rs h<=m:=by
 unfold fM;rw[dif_pos e];exact(BS e).choose_spec
theorem pS(l:Live hs rs h):∃ r∈rs,r.1=h/\∀ x∈r.2.1,x∈hs->Live hs rs x/\fM hs rs x<fM hs rs h:=by
 have k:=(m6 (GS l)).1;generalize hn:fM hs rs h=n at k;cases n with
 |zero=>exact k.elim
 |succ n=>
  obtain⟨r,hr,e,hb⟩:=k;refine⟨r,hr,e,fun x hx hh=>⟨(?F4).live,Nat.lt_succ_of_le ((m6 ⟨n,?F4⟩).2 n ?F4)⟩⟩
theorem Qd:Qi h (r::rs)=(if r.1=h then r.2.2 else 0)+Qi h rs:=by
 have go:∀ (rs:List yC) (a:Rat),rs.foldl (Jy h) a=a+Qi h rs:=by
  intro rs
  induction rs with
  |nil=>intro a;simp[Qi];grind
  |cons r rs ih=>
   intro a;unfold Qi;rw[Yz,Yz,ih,ih (Jy h 0 r)];unfold Jy;split <;> grind
 unfold Qi;rw[Yz,go];unfold Jy;split
 .show 0+r.2.2+Qi h rs=r.2.2+Qi h rs;grind
 .rfl
theorem Z1:∀ {rs:List yC},(∀ r∈rs,0<=r.2.2)->Qi h (rs.filter p)<=Qi h rs
 |[],_=>qr
 |r::rs,hn=>by
  have ih:=Z1 (h:=h) (p:=p) (rs:=rs) fun x hx=>hn x ?Ap;have h0:=hn r (by simp);cases q:p r with
  |true=>
   rw[YD (by exact q),Qd,Qd];grind
  |false=>
   rw[YE ?vJ,Qd];split <;> grind
theorem W0:∀ {rs:List yC},(∀ r∈rs,0<=r.2.2)->r∈rs->r.1=h->p r=false->0<r.2.2->Qi h (rs.filter p)<Qi h rs
 |[],_,hr,_,_,_=>by cases hr
 |x::rs,hn,hr,e,hp,h0=>by
  have hn':∀ r∈rs,0<=r.2.2:=fun y hy=>hn y ?FQ;have le:=Z1 (h:=h) (p:=p) (rs:=rs) hn';have hx:=hn x (by simp);rcases yG.mp hr with z|z
  .subst z;rw[YE (by rw[hp];decide),Qd,yf e];grind
  .have ih:=W0 (rs:=rs) hn' z e hp h0;cases q:p x with
   |true=>
    rw[YD (by exact q),Qd,Qd];grind
   |false=>
    rw[YE ?vJ,Qd];split <;> grind
theorem Ky:kA (r::ss) h o=if r.1=h/\b0 r=o then r.2.2 else kA ss h o:=by
 unfold kA vA;rw[yt,yt,Yb,yS];by_cases e:r.1=h/\b0 r=o
 .rw[yf e,yL (by rw[e.1,e.2])];rfl
 .rw[ye e,yA (fun z=>e (by simpa using z))]
theorem Be(hn:(h,o)∉ss.map fun r=>?U):kA ss h o=0:=by
 induction ss with
 |nil=>rfl
 |cons r ss ih=>
  rw[Ky,ye (fun z=>hn (by rw[yt,z.1,z.2];exact yh)),ih fun z=>hn (by rw[yt];exact ?D0)]
theorem mJ {c:Rat}(hk:k<n):qX n (fun j=>if j=k then c else 0)=c:=by
 have e:=W1 (f:=fun j=>if j=k then c else 0) hk;rw[Kt fun j _=>by by_cases h:j=k <;> simp[h]] at e;simp at e;grind
theorem fU {L:?A0}{h:Str}(nd:?Gq):∀ {ss:List yC},(ss.map fun r=>?U).Nodup->(∀ r∈ss,b0 r∈L)->qX L.length (fun j=>kA ss h (L.getD j ""))=Qi h ss
 |[],_,_=>Kt fun j _=>rfl
 |r::ss,hk,hL=>by
  rw[yt,Yi] at hk;have ih:=fU nd (h:=h) (ss:=ss) hk.2 fun x hx=>hL x ?Ap;rw[Qd,←ih];have hb:=hL r (by simp);by_cases e:r.1=h
  .rw[yf e];have hi:=qi.mpr hb;have:qX L.length (fun j=>kA (r::ss) h (L.getD j ""))=qX L.length (fun j=>(if j=L.idxOf (b0 r) then r.2.2 else 0)+kA ss h (L.getD j "")):=JS fun j hj=>by
    have gj:L.getD j "" = L[j]:=by rw[yW,yl hj];rfl
    rw[Ky,gj];by_cases ej:j=L.idxOf (b0 r)
    .have e2:b0 r=L[j]:=by subst ej;exact(List.getElem_idxOf hi).symm
     rw[yf ⟨e,e2⟩,yf ej,Be (by rw[←e2,←e];exact hk.1)];grind
    .have e2:¬ b0 r=L[j]:=fun z=>ej (by
      have h1:=List.getElem_idxOf hi;have:L[L.idxOf (b0 r)]=L[j]:=h1.trans z;exact((List.getElem_inj nd).mp this).symm)
     rw[ye (fun z=>e2 z.2),ye ej];grind
   rw[this,xP,mJ hi]
  .rw[ye e,JS (g:=fun j=>kA ss h (L.getD j "")) fun j _=>by rw[Ky,ye (fun z=>e z.1)]];grind
theorem xf:∀ {rs:List yC} {acc:List Str},acc.Nodup->(rs.foldl Qo acc).Nodup
 |[],acc,h=>h
 |r::rs,acc,h=>by
  rw[Yz];refine xf ?_;unfold Qo;split
  .exact h
  .rename_i hn;rw[Ye];exact⟨h,by simp,fun a ha b hb e=>hn (by rw[yy.mp hb] at e;exact e▸ha)⟩
theorem Zx:h∈zL hs rs ↔ h∈hs/\Live hs rs h:=by
 unfold zL;rw[Ys];simp
section
theorem nL:(?AA).Nodup:=List.Pairwise.filter _ (xf Qa)
theorem c7 {r:yC}:jN ?AJ ?AA r.2.1=true ↔ ∀ x∈r.2.1,x∈yJ rs->Live ?AJ rs x:=by
 rw[xG];refine forall_congr' fun x=>forall_congr' fun _=>⟨fun h hh=>(Zx.mp (h hh)).2,fun h hh=>Zx.mpr ⟨hh,h hh⟩⟩
theorem xl:r∈kh rs ↔ r∈rs/\jN ?AJ ?AA r.2.1=true/\jt ?AA r=true:=by
 unfold kh zJ;rw[Ys,Ys];exact⟨fun h=>⟨h.1.1,h.1.2,h.2⟩,fun h=>⟨⟨h.1,h.2.1⟩,h.2.2⟩⟩
theorem iP:r∈zj rs ↔ r∈rs/\jN ?AJ ?AA r.2.1=true/\jt ?AA r=false:=by
 unfold zj zJ;rw[Ys,Ys];simp only[Bool.not_eq_true'];exact⟨fun h=>⟨h.1.1,h.1.2,h.2⟩,fun h=>⟨⟨h.1,h.2.1⟩,h.2.2⟩⟩
theorem aZ(h:jt L r=true):r.2.1=[b0 r]/\b0 r∈L:=by
 unfold jt at h;split at h
 .rename_i x hx;have:b0 r=x:=by unfold b0;rw[hx];rfl
  rw[this];exact⟨hx,?Oi⟩
 .cases h
theorem UL:∀ {l:List α},(l.map f).Nodup->((?Lw).map f).Nodup
 |[],_=>Qa
 |a::l,h=>by
  rw[yt,Yi] at h;have ih:=UL (p:=p) h.2;cases q:p a with
  |true=>
   rw[YD (by exact q),yt,Yi];refine⟨fun z=>h.1 ?_,ih⟩;obtain⟨b,hb,e⟩:=yn.mp z;exact yn.mpr ⟨b,(Ys.mp hb).1,e⟩
  |false=>rw[YE ?vJ];exact ih
theorem lQ (h:(rs.map fun r=>?Y).Nodup):((?D7).map fun r=>?U).Nodup:=by
 have a:((kh rs).map fun r=>?Y).Nodup:=UL (UL h);have go:∀ {l:List yC},(∀ r∈l,r.2.1=[b0 r])->(l.map fun r=>?Y).Nodup->(l.map fun r=>?U).Nodup:=by
  intro l
  induction l with
  |nil=>intro _ _;exact Qa
  |cons r l ih=>
   intro h1 h2;rw[yt,Yi] at h2 ⊢;refine⟨fun z=>h2.1 ?_,ih (fun x hx=>h1 x ?Ap) h2.2⟩;obtain⟨q,hq,e⟩:=yn.mp z;simp only[Prod.mk.injEq] at e;refine yn.mpr ⟨q,hq,?_⟩;rw[h1 q (yb _ hq),h1 r (by simp),e.1,e.2]
 exact go (fun r hr=>(aZ (?Iq).2.2).1) a
theorem tf:∀ {ss:List yC},(ss.map fun r=>?U).Nodup->r∈ss->kA ss r.1 (b0 r)=r.2.2
 |[],_,h=>by cases h
 |q::ss,hn,h=>by
  rw[yt,Yi] at hn;rw[Ky];rcases yG.mp h with z|z
  .subst z;rw[yf ⟨rfl,rfl⟩]
  .rw[ye fun e=>hn.1 (by rw[e.1,e.2];exact yn.mpr ⟨r,z,rfl⟩)];exact tf hn.2 z
theorem Ba (hp:(rs.map fun r=>?Y).Nodup)(h0:∀ r∈rs,0<r.2.2)(h1:∀ h∈yJ rs,Qi h rs=1):Piv (?AA).length (wM2 ?AA ?D7):=by
 have nn:∀ r∈rs,0<=r.2.2:=fun r hr=>YH (h0 r hr)
 have ks:=lQ hp;have hd:∀ i,i<(?AA).length->(?AA).getD i "" ∈ yQ rs:=fun i hi=>by
  rw[yW,yl hi];exact List.getElem_mem hi
 have row:∀ i,qX (?AA).length (wM2 ?AA ?D7 i)=Qi ?vK ?D7:=fun i=>fU nL ks fun r hr=>(aZ (?Iq).2.2).2;have lr:∀ h,Qi h ?BZ<=Qi h rs:=fun h=>Z1 nn;have lrn:∀ r∈zJ (yJ rs) (yQ rs) rs,0<=r.2.2:=fun r hr=>nn r (Ys.mp hr).1;refine AW (ρ:=fun i=>fM ?AJ rs ?vK) (fun i j _ _=>?_) (fun i hi=>?_) fun i hi=>?_
 .show 0<=kA _ _ _;unfold kA;cases q:vA ((kh rs).map fun r=>?U) ((kh rs).map ?qD) ((yQ rs).getD i "", (?AA).getD j "") with
  |none=>exact qr
  |some v=>
   obtain⟨r,hr,e⟩:=yn.mp (cX q);rw[←e];exact nn r (?Iq).1
 .rw[row,←h1 _ (Zx.mp (hd i hi)).1];have a:=Z1 (h:=?vK) (p:=?Cp) lrn;exact Rat.le_trans a (lr _)
 .obtain⟨lh,ll⟩:=Zx.mp (hd i hi);obtain⟨r,hr,e,hb⟩:=pS ll;have ok:jN (yJ rs) (yQ rs) r.2.1=true:=c7.mpr fun x hx hh=>(?F4).1;cases q:jt (yQ rs) r with
  |true=>
   obtain⟨o1,o2⟩:=aZ q;have hx:b0 r∈yJ rs:=(Zx.mp o2).1;refine .inr ⟨(?AA).idxOf (b0 r),qi.mpr o2,?_,?_⟩
   .have ei:(yQ rs).getD ((yQ rs).idxOf (b0 r)) "" = b0 r:=by rw[yW,iB o2];rfl
    show 0<kA _ _ _;rw[ei,←e,tf ks (xl.mpr ⟨hr,ok,q⟩)];exact h0 r hr
   .show fM _ _ ((?AA).getD ((?AA).idxOf (b0 r)) "")<_;rw[yW,iB o2];exact(hb (b0 r) (by rw[o1];simp) hx).2
  |false=>
   refine .inl ?_;rw[row,←h1 _ lh];have a:=W0 (h:=?vK) (p:=?Cp) lrn (Ys.mpr ⟨hr,ok⟩) e q (h0 r hr);have b:=lr ?vK;unfold kh;grind
theorem OkD.times {q:Rat}(h:OkD M 1 q)(hk:0<k):OkD (M*k) 1 q:=by
 obtain⟨z,e1,e2⟩:=h;refine⟨z*k,?_,?_⟩
 .rw[e1,Nat.pow_one,Nat.pow_one,qK,qK,Ks ?A]
 .rw[Nat.one_mul] at e2 ⊢;have a:=YI k e2;have b:M ^ (2*1)*k<=(M*k) ^ (2*1):=by
   rw[show 2*1=2 from rfl,Nat.mul_pow];refine Nat.mul_le_mul_left _ ?_;rw[Nat.pow_two];exact Nat.le_mul_of_pos_left k hk
  exact yU a b
theorem OkD.self {q:Rat}(hq:0<=q)(hM:0<M):OkD (M*(q.den*(q.num.natAbs+1))) 1 q:=by
 have dp:=q.den_pos;obtain⟨n,hn⟩:=YJ (My.q_num_nn hq);refine⟨n*(M*(n+1)),?_,?_⟩
 .rw[Nat.pow_one,hn,qU];have e:q=Rat.divInt q.num q.den:=(YX q).symm;have z:(0:Int)<((M*(n+1):Nat):Int):=Int.natCast_pos.mpr (Qj hM (Nat.succ_pos n));rw[show((n*(M*(n+1)):Nat):Int)=(n:Int)*((M*(n+1):Nat):Int) by push_cast;rfl,show((M*(q.den*(n+1)):Nat):Int)=(q.den:Int)*((M*(n+1):Nat):Int) by push_cast;grind,Ks z,←hn];exact e
 .rw[Nat.one_mul,hn,qU,show 2*1=2 from rfl,Nat.pow_two];have a:n<=M*(q.den*(n+1)):=by
   have:n+1<=M*q.den*(n+1):=Nat.le_mul_of_pos_left _ (Qj hM dp);rw[Nat.mul_assoc] at this;lia
  have b:M*(n+1)<=M*(q.den*(n+1)):=Nat.mul_le_mul_left M (Nat.le_mul_of_pos_left _ dp);exact qt a b
theorem GQ:∀ {qs:List Rat},(∀ q∈qs,0<=q/\Sz t q)->∃ M,32<=M/\M<2 ^ (6+qs.length*(2*t))/\∀ q∈qs,OkD M 1 q
 |[],_=>⟨32,yg _,by simp,fun q hq=>by cases hq⟩
 |q::qs,h=>by
  obtain⟨M,h1,h2,h3⟩:=GQ (qs:=qs) fun x hx=>h x ?Ap;obtain⟨q0,s1,s2⟩:=h q (by simp);have kp:0<q.den*(q.num.natAbs+1):=Qj q.den_pos (Nat.succ_pos _);refine⟨M*(q.den*(q.num.natAbs+1)),yU h1 (Nat.le_mul_of_pos_right _ kp),?_,fun x hx=>?_⟩
  .rw[yw,show 6+(qs.length+1)*(2*t)=6+qs.length*(2*t)+(t+t) by rw[Q3];lia];generalize 6+qs.length*(2*t)=A at h2 ⊢;rw[jk 2 A,jk 2 t];exact Nat.mul_lt_mul_of_lt_of_le h2 (qt (Qb s2) ?A) ?Jn
  .rcases yG.mp hx with z|z
   .subst z;exact OkD.self q0 ?A
   .exact(h3 x z).times kp
end
theorem AT {hs ws:?A0}{rs:?A4}{H:Nat}(g:?GE)(h3:hs.length<=H)(hH:H<=3)(hB:6+(12+H*H)*(2*sK 5 H)<=16500){row:?A0}(hr:row.length<=5):∃ M,SumG rs row M (6+(12+H*H)*(2*sK 5 H)) 5:=by
 have sz:∀ r∈rs,0<=r.2.2/\Sz 5 r.2.2:=fun r hr=>⟨YH (?Cq).1,(?Cq).2⟩
 have rl:=g.rl;have ll:(yQ rs).length<=H:=yU (Yv _ _) (by rw[g.fst];exact h3);have pv:=Ba g.prs (fun r hr=>(?Cq).1) fun h hh=>g.one h (by rw[←g.fst];exact hh);have cg:=tZ (L:=?AA) (ss:=?D7) (s:=5) (fun r hr=>sz r (?Iq).1) ?B pv;have s3:sK 5 (yQ rs).length<=sK 5 H:=Wh ll;have s5:5<=sK 5 H:=Wh (YC H);have sB:sK 5 H<=383:=Wh hH;obtain⟨M,m1,m2,m3⟩:=GQ (t:=sK 5 H) (qs:=rs.map ?qD++(List.range (?AA).length).flatMap fun i=>(List.range (?AA).length).map fun j=>Zz rs i j) fun q hq=>by
  rcases Yj.mp hq with z|z
  .obtain⟨r,h1,rfl⟩:=yn.mp z;exact⟨(sz r h1).1,(sz r h1).2.mono s5⟩
  .obtain⟨i,hi,z⟩:=Y1.mp z;obtain⟨j,hj,rfl⟩:=yn.mp z;rw[qS] at hi hj;exact⟨(cg i j hi hj).1,(cg i j hi hj).2.mono s3⟩
 refine⟨M,?A,fun r hr=>(?IM).2.1,lQ g.prs,sz,?B,yU s3 (yU sB ?B),pv,m1,Yc m2 (YU ?B (Nat.add_le_add_left (YI _ ?_) _)),hB,hr,⟨?_,fun r hr=>?_,fun r hr=>?_,fun r hr=>?_⟩,fun i j hi hj=>?_,nL,?A⟩
 .have:((List.range (yQ rs).length).flatMap fun i=>(List.range (?AA).length).map fun j=>Zz rs i j).length<=H*H:=by
   have e:∀ n k:Nat,((?Dw).flatMap fun i=>(?Es).map fun j=>Zz rs i j).length=n*k:=fun n k=>by
    induction n with
    |zero=>simp
    |succ n ih=>rw[qw,Qk,yK,ih,Q3];simp
   rw[e];exact qt ll ll
  rw[yK,yd];lia
 .have a:(zj rs).length<=_:=Yv _ _;have b:(zJ (yJ rs) (yQ rs) rs).length<=rs.length:=Yv _ _;lia
 .obtain⟨h1,h2,_⟩:=iP.mp hr;exact Zx.mpr ⟨Jf.mpr (yn.mpr ⟨r,h1,rfl⟩),.mk r h1 (c7.mp h2)⟩
 .obtain⟨h1,h2,h3⟩:=iP.mp hr;obtain⟨b1,b2,_⟩:=g.body r h1;refine⟨b1,b2,fun x hx hh=>?_⟩;unfold jt at h3;rw[hx] at h3;have hl:x∉yQ rs:=of_decide_eq_false h3;exact hl (Zx.mpr ⟨hh,c7.mp h2 x (by rw[hx];simp) hh⟩)
 .exact m3 _ (yq _ (yn.mpr ⟨r,(iP.mp hr).1,rfl⟩))
 .exact m3 _ (yF _ (Y1.mpr ⟨i,qS.mpr hi,yn.mpr ⟨j,qS.mpr hj,rfl⟩⟩))
section
variable {p0 p1 p2 p3:Rat}
end
section
variable [DecidableEq κ]
theorem mQ:∀ {ks:List κ} {xs:List α},ks.length=xs.length->vA ks ((?Au).map fun p=>?xA) k'=if k'=k then (if k∈ks then some v else none) else vA ks xs k'
 |[],[],_=>by by_cases h:k'=k <;> simp[vA,h]
 |[],_::_,h=>by simp at h
 |_::_,[],h=>by simp at h
 |q::ks,x::xs,h=>by
  have ih:=mQ (k:=k) (k':=k') (v:=v) (ks:=ks) (xs:=xs) (by simpa using h);unfold vA at ih ⊢;rw[Yb,yt,Yb,yS,yS];by_cases e:q=k'
  .subst e;by_cases e2:q=k
   .subst e2;simp
   .simp[e2]
  .rw[yA e];dsimp only;rw[ih];by_cases e2:k'=k
   .subst e2;have:¬ k'=q:=fun z=>e z.symm;simp[this]
   .simp[e2]
theorem nN:∀ {ks:List κ} {xs:List α},ks.length=xs.length->k∉ks->vA (ks++[k]) (xs++[v]) k'=if k'=k then some v else vA ks xs k'
 |[],[],_,_=>by
  by_cases h:k'=k
  .subst h;simp[vA]
  .have:¬ k=k':=fun z=>h z.symm;simp[vA,h,this]
 |[],_::_,h,_=>by simp at h
 |_::_,[],h,_=>by simp at h
 |q::ks,x::xs,h,hk=>by
  have ih:=nN (k:=k) (k':=k') (v:=v) (ks:=ks) (xs:=xs) (by simpa using h) fun z=>hk ?D0;unfold vA at ih ⊢;rw[YQ,YQ,Yb,Yb,yS,yS];by_cases e:q=k'
  .subst e;have:¬ q=k:=fun z=>hk (by simp[z]);simp[this]
  .rw[yA e];exact ih
theorem h6 {ks:?Ak}{xs:?Ay}{k k':κ}{v:α}(h:ks.length=xs.length):vA ?DY ?Ew k'=if k'=k then some v else vA ks xs k':=by
 unfold pK pA;by_cases hk:k∈ks
 .rw[yf hk,yf hk,mQ h,yf hk]
 .rw[ye hk,ye hk,nN h hk]
end
theorem Br {i j i' j':Nat}{t:Rat}(hl:kn.1.length=kn.2.length):JA ?Hw h' i' j'=if h'=h/\i'=i/\j'=j then t else JA kn h' i' j':=by
 unfold JA v7;dsimp only;rw[h6 hl];by_cases e:h'=h/\i'=i/\j'=j
 .rw[yf e,yf (by rw[e.1,e.2.1,e.2.2])];rfl
 .rw[ye e,ye (fun z=>e (by simpa using z))]
theorem AV {t:Rat}(hl:kn.1.length=kn.2.length):(?Hw).1.length=(?Hw).2.length:=kj hl
section
variable {A B x y:Str}{p0 p1 p2 p3:Rat}
end
def wK (f:?zB):List yC->Rat
 |[]=>0
 |r::rs=>f r+wK f rs
theorem XY {f:?zB}:∀ {rs:List yC},(∀ r∈rs,f r=0)->wK f rs=0
 |[],_=>rfl
 |r::rs,h=>by rw[wK,h r (by simp),XY fun x hx=>h x ?Ap];grind
section
variable {M:Nat}{hs L:?A0}{br:?A4}{w:Str}
theorem Ki {f:?zB}:∀ {rs:List yC},wK f (rs++[r])=wK f rs+f r
 |[]=>by simp[wK];grind
 |x::rs=>by rw[YQ,wK,wK,Ki];grind
end
section
variable {h:Str}{rs:?A4}{s:Nat}
end
theorem cK {X:Cx}{B:Bs}{Γ:Ga}{Ω Ω' Ω5:Om}{E:E3}{sts:?Aw}(pm:Ω.Perm (Ω'++Ω5))(h:?Ol):?P9:=fun F σ H S=>by
 have S1:=S.perm pm.symm;have nd:=S1.nd;rw[yk] at nd;exact h F σ H ⟨S1.f0,S1.fh,S1.fr,S1.kp,(Ye.mp nd).1,fun q hq=>S1.od q (yq _ hq),fun q hq=>S1.own q (yq _ hq),S1.sl⟩
structure ClsP (K:?A1)(C:Addr):Prop where
 c:Cls K C
 n_sums:QM K C "sums"
 n_known_rules:QM K C "known_rules"
 n_known_beyonds:QM K C "known_beyonds"
 n_spans:QM K C "spans"
 n_handed:QM K C "handed"
theorem C4 {K:?A1}{C:Addr}(pg:?tN)(hd:?vD)(po:?xG)(sa:?vS)
  (n1:W.findIn K ?AF "sums" = some none) (n2:W.findIn K ?AF "known_rules" = some none) (n3:W.findIn K ?AF "known_beyonds" = some none) (n4:W.findIn K ?AF "spans" = some none) (n5:W.findIn K ?AF "handed" = some none):ClsP K C:=⟨?K8,n1,n2,n3,n4,n5⟩
def pF:?A0:=["sums", "known_rules", "known_beyonds", "spans", "handed"]
theorem V2:("beyond" : Str)∉pF:=by decide +kernel
theorem KU:("uses" : Str)∉pF:=by decide +kernel
theorem Zu:("hand" : Str)∉pF:=by decide +kernel
theorem VO:("hand_to_heads" : Str)∉pF:=by decide +kernel
theorem Vb:("hand_to_bodies" : Str)∉pF:=by decide +kernel
theorem ZX:("hand_within_bodies" : Str)∉pF:=by decide +kernel
def A7 (Cp:Addr):?H:=fun ds d=>∃ (sm rl sp hd:D) (kn:Kn) (h:Str) (i j:Nat),ds=[.obj Cp pF [sm,rl,knD kn,sp,hd],.str h,.int (i:Int),.int (j:Int)]/\d=sh ?IZ
theorem sH {p q:Rat}:∀ e∈[sh p,sh q],kin e (sh 0)=true/\dep e<=60:=fun e he=>by
 rcases yG.mp he with z|z
 .rw[z];exact⟨Ja,Jg⟩
 .rw[yy.mp z];exact⟨Ja,Jg⟩
structure SopQ (Q:Nat)(ps:?CB)(t b:Int):Prop where
 t0:0<=t
 b0:0<b
 dv:b ∣ (Q:Int)
 e:Rat.divInt t b=ju ps
def SqP (Q s:Nat)(p:?K):Prop:=(0<=p.1/\Sz s p.1)/\(0<=p.2/\Sz s p.2)/\p.1.den*p.2.den ∣ Q
def K3:?H:=fun ds d=>∃ (ps:List (Rat×Rat)) (Q s a:Nat),ds=[.lst ?Ie]/\d=sh (ju ps)/\(∀ p∈ps,?GY)/\0<Q/\Q<2 ^ a/\ps.length+4*s+a<=134217728
theorem SopQ.skip {Q:Nat}{ps:?CB}{p:?K}{t b:Int}(h:?I1)(hp:p.1=0∨p.2=0):SopQ Q (ps++[p]) t b:=by
 refine⟨h.t0,h.b0,h.dv,?_⟩;rw[Kl,h.e];rcases hp with z|z
 .rw[z,Rat.zero_mul,Rat.add_zero]
 .rw[z,Rat.mul_zero,Rat.add_zero]
theorem EF {b e:Int}{Q:Nat}(hb:0<b)(he:0<e)(h1:b ∣ (Q:Int))(h2:e ∣ (Q:Int)):b / My.G b e*e ∣ (Q:Int):=by
 have g0:0<My.G b e:=My.G_pos he;have k:((Int.gcd b e:Nat):Int)=My.G b e:=rfl;have z:=Int.coe_lcm_dvd h1 h2;have q:((Int.lcm b e:Nat):Int)=b / My.G b e*e:=by
  have hm:(Int.gcd b e:Int)*(Int.lcm b e:Int)=b*e:=by
   have:=Int.gcd_mul_lcm b e;have x1:=Int.natAbs_of_nonneg (yN hb);have x2:=Int.natAbs_of_nonneg (yN he);rw[←qK,this,qK,x1,x2]
  obtain⟨b',eb⟩:My.G b e ∣ b:=by have:=Int.gcd_dvd_left b e;exact this
  have d1:b / My.G b e=b':=by
   conv=>lhs;arg 1;rw[eb]
   rw[QT _ (by lia)]
  rw[d1];rw[k] at hm;refine Int.eq_of_mul_eq_mul_left (a:=My.G b e) ?A ?_;rw[hm,←Int.mul_assoc,←eb]
 rw[←q];exact z
theorem SopQ.more {Q s:Nat}{ps:?CB}{p:?K}{t b:Int}(h:?I1)(hp:?GY) :
  SopQ Q (ps++[p]) (t*((p.1.den:Int)*(p.2.den:Int) / My.G b ?yA)+p.1.num*p.2.num*(b / My.G b ?yA)) (b / My.G b ?yA*?yA):=by
 have he:0<(p.1.den:Int)*(p.2.den:Int):=Qm ?I6 ?I6;have g0:0<My.G b ((p.1.den:Int)*(p.2.den:Int)):=My.G_pos he;have c1:=Wx (a:=b) (g:=?GR) (yN h.b0) g0;have c2:=Wx (a:=?yA) (g:=?GR) (yN he) g0;have dv:(p.1.den:Int)*(p.2.den:Int) ∣ (Q:Int):=by have:=Int.natCast_dvd_natCast.mpr hp.2.2;rwa [qK] at this
 refine⟨Int.add_nonneg (QD h.t0 c2.1) (QD (QD (My.q_num_nn hp.1.1) (My.q_num_nn hp.2.1.1)) c1.1),Qm ?_ he,EF h.b0 he h.dv dv,?_⟩
 .obtain⟨q,hq⟩:My.G b ((p.1.den:Int)*(p.2.den:Int)) ∣ b:=by have:=Int.gcd_dvd_left b ?yA;exact this
  have hb:=h.b0;generalize My.G b ?yA=g at *;rw[hq,QT _ ?A];rw[hq] at hb;exact Int.pos_of_mul_pos_right hb ?A
 .rw[FE h.b0 he,h.e,Kl,←jI,YX,YX]
theorem D6 {s:Nat}{q:Rat}(h:0<=q/\Sz s q):q<=((2 ^ s:Nat):Rat):=by
 have a:q.num<=((2 ^ s:Nat):Int):=by have:=h.2.1;have:=My.q_num_nn h.1;lia
 have d:=q.den_pos;rw[Rat.le_iff];show q.num*1<=((2 ^ s:Nat):Int)*(q.den:Int);rw[Int.mul_one];refine Int.le_trans a ?_;have:(1:Int)<=(q.den:Int):=by lia
 have z:=Int.mul_le_mul_of_nonneg_left this (Int.natCast_nonneg (2 ^ s));lia
theorem C9 {Q s:Nat}:∀ {ps:List (Rat×Rat)},(∀ p∈ps,?GY)->ju ps<=((ps.length*2 ^ (s+s):Nat):Rat):=by
 have go:∀ n,∀ ps:List (Rat×Rat),ps.length=n->(∀ p∈ps,?GY)->ju ps<=((n*2 ^ (s+s):Nat):Rat):=by
  intro n
  induction n with
  |zero=>intro ps hl _;rw[Qy.mp hl];simp[ju]
  |succ n ih=>
   intro ps hl h;obtain⟨qs,p,rfl⟩:∃ qs p,ps=qs++[p]:=⟨ps.dropLast,ps.getLast (by intro z;rw[z] at hl;simp at hl),(List.dropLast_concat_getLast _).symm⟩
   rw[Kl];have a:=ih qs (by simpa using hl) fun p hp=>h p ?Gu;have hp:=h p (by simp);have b:p.1*p.2<=((2 ^ s:Nat):Rat)*((2 ^ s:Nat):Rat):=by
    have x1:=D6 hp.1;have x2:=D6 hp.2.1;have y1:=QP x1 hp.2.1.1;have y2:=Rat.mul_le_mul_of_nonneg_left x2 (c:=((2 ^ s:Nat):Rat)) (Rat.le_trans hp.1.1 x1);exact Rat.le_trans y1 y2
   have e:((((n+1)*2 ^ (s+s):Nat)):Rat)=((n*2 ^ (s+s):Nat):Rat)+((2 ^ s:Nat):Rat)*((2 ^ s:Nat):Rat):=by
    rw[Q3,Nat.one_mul,jk];push_cast;grind
   rw[e];grind
 intro ps h;exact go _ ps rfl h
theorem SopQ.tb {Q s a:Nat}{ps:?CB}{t b:Int}(h:?I1)(hp:∀ p∈ps,?GY)(hQ:0<Q)(hQ2:Q<2 ^ a):t.natAbs<2 ^ (ps.length+(s+s)+a):=by
 have l:=C9 hp;rw[←h.e] at l;have b0:=h.b0;have bQ:b<=(Q:Int):=Int.le_of_dvd ?A h.dv;have l2:t<=((ps.length*2 ^ (s+s):Nat):Int)*b:=by
  generalize ps.length*2 ^ (s+s)=N at *;have bq:(0:Rat)<(b:Rat):=Rat.intCast_pos.mpr b0;rw[Rat.divInt_eq_div] at l;have z:=QP l (YH bq);rw[Rat.div_mul_cancel (by grind)] at z;have e:((N:Nat):Rat)*(b:Rat)=(((N:Int)*b:Int):Rat):=by push_cast;rfl
  rw[e] at z;exact Rat.intCast_le_intCast.mp z
 have l3:t.natAbs<=ps.length*2 ^ (s+s)*Q:=by
  have:=Int.mul_le_mul_of_nonneg_left bQ (Int.natCast_nonneg (ps.length*2 ^ (s+s)));have t0:=h.t0;have c:((ps.length*2 ^ (s+s)*Q:Nat):Int)=((ps.length*2 ^ (s+s):Nat):Int)*(Q:Int):=by push_cast;rfl
  lia
 refine QS l3 ?_;rw[jk 2 (ps.length+(s+s)),jk 2 ps.length];have x:ps.length<2 ^ ps.length:=Nat.lt_two_pow_self;refine Nat.mul_lt_mul_of_le_of_lt (YI _ (Qb x)) hQ2 ?_;exact ?Jn
theorem SopQ.bb {Q a:Nat}{ps:?CB}{t b:Int}(h:?I1)(hQ:0<Q)(hQ2:Q<2 ^ a):b.natAbs<2 ^ a:=by
 have b0:=h.b0;have bQ:b<=(Q:Int):=Int.le_of_dvd ?A h.dv;lia
theorem mB:∀ {ps:List (Rat×Rat)} {s:Nat},(∀ p∈ps,(0<=p.1/\Sz s p.1)/\0<=p.2/\Sz s p.2)->∃ Q,0<Q/\Q<2 ^ (ps.length*(s+s)+1)/\∀ p∈ps,SqP Q s p
 |[],s,_=>⟨1,?B,by simp,fun p hp=>by cases hp⟩
 |p::ps,s,h=>by
  obtain⟨Q,h1,h2,h3⟩:=mB (ps:=ps) (s:=s) fun q hq=>h q ?Bt;have hp:=h p (by simp);have d:=Qj p.1.den_pos p.2.den_pos;refine⟨p.1.den*p.2.den*Q,Qj d h1,?_,fun q hq=>?_⟩
  .rw[yw,show(ps.length+1)*(s+s)+1=s+s+(ps.length*(s+s)+1) by rw[Q3];lia,jk,jk 2 s s];exact Nat.mul_lt_mul_of_le_of_lt (qt (Qb hp.1.2.2) (Qb hp.2.2.2)) h2 ?Jn
  .rcases yG.mp hq with z|z
   .subst z;exact⟨hp.1,hp.2,Nat.dvd_mul_right _ _⟩
   .have:=h3 q z;exact⟨this.1,this.2.1,Nat.dvd_trans this.2.2 (Nat.dvd_mul_left _ _)⟩
theorem GJ:∀ ds d,D0 ds d->K3 ds d:=fun ds d ⟨ps,s,h1,h2,h3,h4,h5⟩=>by
 obtain⟨Q,q1,q2,q3⟩:=mB h3;refine⟨ps,Q,s,_,h1,h2,q3,q1,q2,?_⟩;have b:big=67108864:=rfl;unfold Fx at h4;rw[Nat.mul_add,Nat.mul_left_comm] at h4;rw[Nat.mul_add];generalize ps.length*s=x at *;rcases Nat.eq_zero_or_pos ps.length with z|z <;> lia
theorem Dg {P:?A6}{w:?A5}{K:?A1}{mg:?G}{base:Heap}{CX:CXT}{k n:Nat}{x:Str}{ps:?A0}{C C':?H}(o:OkF P w K mg base CX k x ps (spP K n C))(h:∀ ds d,C' ds d->C ds d):OkF P w K mg base CX k x ps (spP K n C'):=by
 obtain⟨f,fd,F,r⟩:=o;exact⟨f,fd,F.imp fun vs H Q E ⟨ds,d,F',c,z⟩=>⟨ds,d,F',h ds d c,z⟩,r⟩
structure PG where
 a:Addr
 kb:Addr
 hd:Addr
 s:GSt
 kn:Kn
 hs:List Hs
 rs:List yC
def pgD (t:PG):?A7:=[.raw (.ref t.s.a),.lst ?Fb,.raw (.ref t.kb),.lst ((?KP).map Zg),.raw ?Gw]
def ug (P:?A6)(w:?A5)(K:?A1)(Cp Cs:Addr)(t:PG):Om:=(t.a,zi K Cp pF (pgD t))::(t.kb,?H2)::(t.hd,Jz P w K t.hd ?M9)::omG P w K Cs t.s
def zQ (P:?A6)(w:?A5)(K:?A1)(Cp Cs:Addr)(t:PG):Om:=ug P w K Cp Cs t++omH P w K t.hs
theorem re {L:Bool}{Ω Ω':Om}(h:?Gm)(h':uc L Ω'):uc L (Ω++Ω'):=fun q hq=>(Yj.mp hq).elim (h q) (h' q)
theorem Fl {P:?A6}{w:?A5}{K:?A1}{hs:?B0}:uc false (omH P w K hs):=fun q hq=>by
 obtain⟨s,_,hq⟩:=Y1.mp hq;rcases yG.mp hq with e|e
 .subst e;exact xV
 .obtain⟨x,_,rfl⟩:=yn.mp e;exact vm
theorem wX {P:?A6}{w:?A5}{K:?A1}{Cp Cs:Addr}{t:PG}:uc false (zQ P w K Cp Cs t):=re (qW Vf (qW b7 (qW xV UM))) Fl
def zo (es:?AU)(n:Nat):Prop:=∀ s∈es,s.2.length<=n/\∀ x∈s.2,x.2.length<=n
def kF (L b:?A0)(pr:?K):Bool:=decide (pr.1≠0)&&decide (pr.2≠0)&&(decide (1<b.length)||decide (b.headD "" ∈ L))
def j4 (L:?A0)(es:?AU)(i j:Nat)(b:?A0)(pr:?K):?AU:=if kF L b pr=true then wQ es ?D b pr else es
def AI:PG->List D->Prop:=fun t ds=>∃ (b:List Str) (i j n:Nat) (p q:Rat),ds=[.raw ?BV,Yd b,.int (i:Int),.int (j:Int),Y4 (p,q)]/\1<=b.length/\?D∈t.hs.map ?C/\zo ?Af n/\n<10000000
def Df:?xD:=fun t ds t' d=>d=.non/\∀ (b:List Str) (i j:Nat) (p q:Rat),ds=[.raw ?BV,Yd b,.int (i:Int),.int (j:Int),Y4 (p,q)]->∃ hs',t'={t with hs:=hs'}/\hs'.map erS=j4 t.s.L ?Af i j b (p,q)/\hs'.map hsV=t.hs.map hsV
section
variable {P:?A6}{w:?A5}{K:?A1}{Cp Cs:Addr}{t:PG}{l1 l2:?B0}{s:Hs}
theorem iF (e:t.hs=l1++s::l2):(zQ P w K Cp Cs t).Perm (?tB::(ug P w K Cp Cs t++((s.2.2.map fun x=>(x.2.1,YW K (x.2.2.map Y4)))++?kX))):=by
 unfold zQ;rw[e];refine(List.Perm.append_left _ XT).trans ?_;exact JB
theorem mP (e:t.hs=l1++s::l2):?tB∈zQ P w K Cp Cs t:=(iF e).mem_iff.mpr yh
theorem se (e:t.hs=l1++s::l2)(s':Hs)(h1:s'.1=s.1)(h2:s'.2.1=s.2.1):(l1++s'::l2).map hsV=t.hs.map hsV:=by
 rw[e,yk,yk,yt,yt];have:hsV s'=hsV s:=by unfold hsV;rw[h1,h2]
 rw[this]
theorem XH {Ω0:Om}{s':Hs}{hs':?B0}(e:hs'=l1++s'::l2)(f:ug P w K Cp Cs {t with hs:=hs'}=ug P w K Cp Cs t)(pm:Ω0.Perm (iY P w K s'++(ug P w K Cp Cs t++?kX))):Ω0.Perm (zQ P w K Cp Cs {t with hs:=hs'}):=by
 refine pm.trans ?_;unfold zQ;rw[f];show(iY P w K s'++(ug P w K Cp Cs t++?kX)).Perm (ug P w K Cp Cs t++omH P w K hs');rw[e];refine List.Perm.trans ?_ (List.Perm.append_left _ XT.symm);rw[←QX,←QX (ug P w K Cp Cs t)];exact ?NP
end
theorem Hv {X:Cx}{Γ:Ga}{e:Expr}{k k':Bool}(h:PT3 X Γ e k')(q:k'=k):?IF:=q▸h
theorem BR {p q:Rat}:inD (sh 0) [sh p,sh q]=(decide (p=0)||decide (q=0)):=by
 unfold inD;simp only[JG,List.any_nil,Bool.or_false];rw[QL,QL]
theorem h9 {L:?A0}{F:Nat->D}{x:Str}:(?PQ).isSome=decide (x∈L):=by
 by_cases h:x∈L
 .obtain⟨v,hv⟩:=We (k:=qv x) (ks:=?Bd) (xs:=?K0) (yn.mpr ⟨x,h,rfl⟩) (by rw[yd,YT]);rw[hv,yL h];rfl
 .cases e:vA (L.map qv) (tb L.length F) (qv x) with
  |none=>rw[yA h];rfl
  |some v=>
   exfalso;unfold vA at e;obtain⟨y,hy,_⟩:=Yk.mp e;have m:=QG (Yx hy);have k:=Jk hy;have k':y.1=qv x:=of_decide_eq_true k;obtain⟨z,hz,ez⟩:=yn.mp m.1;rw[k'] at ez;exact h (j3 _ _ ez▸hz)
theorem oY {L:?A0}{F:Nat->D}{x:Str}{rest:?A0}{p q:Rat}:((!inD (sh 0) [sh p,sh q])&&(decide (1<(((x::rest).map D.str).length:Int))||(?PQ).isSome))=kF L (x::rest) (p,q):=by
 rw[BR,h9];unfold kF;rw[yd];have e:decide (1<(((x::rest).length:Nat):Int))=decide (1<(x::rest).length):=decide_eq_decide.mpr ?A;rw[e];by_cases h1:p=0 <;> by_cases h2:q=0 <;> simp[h1,h2]
theorem ck {hs:?B0}{p:?J}(h:p∈hs.map ?C):∃ s,hs.find? ?zO=some s:=by
 obtain⟨s,hs',e⟩:=yn.mp h;cases q:hs.find? ?zO with
 |some s=>exact⟨s,rfl⟩
 |none=>
  have:=zb.mp q s hs';simp[e] at this
section
variable {P:?A6}{w:?A5}{K:?A1}{Cp Cs:Addr}{t:PG}{l1 l2:?B0}{s:Hs}{m1 m2:?EH}{y:Hb}{c:Addr}{d:D}
theorem Ah {hs':?B0}(h:hs'.map hsV=t.hs.map hsV):ug P w K Cp Cs {t with hs:=hs'}=ug P w K Cp Cs t:=by
 unfold ug;show _::_::(t.hd,Jz P w K t.hd (hs'.map hsV))::_=_;rw[h];rfl
end
open Classical in
theorem Cj {α:Type}{b c g:α}{f m1 m2 h:List α}:(g::((b::c::(f++m1))++(m2++h))).Perm ((b::(m1++g::m2))++(f++h)++[c]):=by
 rw[Qq];intro a;simp only[jR,Q0,List.count_nil];lia
open Classical in
theorem CN {α:Type}{b c:α}{f m h:List α}:(c::b::(f++(m++h))).Perm ((b::(m++[c]))++(f++h)):=by
 rw[Qq];intro a;simp only[jR,Q0,List.count_nil];lia
theorem sQ {L:?A0}{hs l1 l2:?B0}{s:Hs}{m1 m2:?EH}{y:Hb}{i j:Nat}{b:?A0}{pr:?K}(e:hs=l1++s::l2)(h1:∀ z∈l1,z.1≠?D)(h2:s.1=?D)(em:s.2.2=m1++y::m2)(g1:∀ z∈m1,z.1≠b)(g2:y.1=b)(hk:kF L b pr=true):(l1++(s.1,s.2.1,m1++(y.1,y.2.1,y.2.2++[pr])::m2)::l2).map erS=j4 L ?DP i j b pr:=by
 unfold j4;rw[yf hk,e,yk,yk,yt,yt,aW (show(erS s).1=?D from h2) fun z hz=>by
  obtain⟨q,hq,rfl⟩:=yn.mp hz;exact h1 q hq]
 have:ZH (erS s).2 b pr=(m1++(y.1,y.2.1,y.2.2++[pr])::m2).map erB:=by
  show ZH (s.2.2.map erB) b pr=_;rw[em,yk,yt,dH (show(erB y).1=b from g2) fun z hz=>by
   obtain⟨q,hq,rfl⟩:=yn.mp hz;exact g1 q hq]
  rw[yk,yt];rfl
 rw[this];rfl
theorem sZ {L:?A0}{hs l1 l2:?B0}{s:Hs}{c:Addr}{i j:Nat}{b:?A0}{pr:?K}(e:hs=l1++s::l2)(h1:∀ z∈l1,z.1≠?D)(h2:s.1=?D)(g1:∀ z∈s.2.2,z.1≠b)(hk:kF L b pr=true):(l1++(s.1,s.2.1,s.2.2++[(b,c,[pr])])::l2).map erS=j4 L ?DP i j b pr:=by
 unfold j4;rw[yf hk,e,yk,yk,yt,yt,aW (show(erS s).1=?D from h2) fun z hz=>by
  obtain⟨q,hq,rfl⟩:=yn.mp hz;exact h1 q hq]
 have:ZH (erS s).2 b pr=(s.2.2++[(b,c,[pr])]).map erB:=by
  show ZH (s.2.2.map erB) b pr=_;rw[fV fun z hz=>by
   obtain⟨q,hq,rfl⟩:=yn.mp hz;exact g1 q hq]
  rw[yk];rfl
 rw[this];rfl
theorem Uw {a:Addr}{b b':?A0}{i j i' j':Nat}{p q p' q':Rat}(e:[D.raw ?AB,Yd b,.int (i:Int),.int (j:Int),Y4 (p,q)]=[D.raw ?AB,Yd b',.int (i':Int),.int (j':Int),Y4 (p',q')]):b'=b/\i'=i/\j'=j/\p'=p/\q'=q:=by
 obtain⟨e1,e2⟩:=List.cons.inj (List.cons.inj e).2;obtain⟨e3,e4⟩:=List.cons.inj e2;obtain⟨e5,e6⟩:=List.cons.inj e4;obtain⟨e7,_⟩:=List.cons.inj e6;unfold Y4 at e7;simp only[D.tup.injEq,List.cons.injEq,and_true] at e7;have z3:=D.int.inj e3;have z5:=D.int.inj e5;exact⟨(Kx e1).symm,?A,?A,(bK e7.1).symm,(bK e7.2).symm⟩
section
variable {X:Cx}{B:Bs}{Γ:Ga}{Ω:Om}{e:Expr}{pos:Pos}{R:?X}{C:Addr}{fd:Str}
theorem mL (c:?CP)(n:QM X.K C fd)(h:V3 X B e Γ Ω fun dq Ω1=>∃ a fs gs d,dq=.raw ?AB/\(a,zi X.K C fs gs)∈Ω1/\(fs.zip gs).lookup fd=some d/\R d Ω1)(hb:attributeBase e fd X.env ?Cj=eval e X.env:=by rfl):V3 X B (.Attribute e fd pos) Γ Ω R:=fun F σ H S pins s I=>
 gi jl hb pins s σ H _ I ((?AP).mono fun v H1 ⟨dq,Ω1,F1,S1,f1,i1,a,fs,gs,d,e1,m,l,r⟩=>by
  subst e1;cases isR i1;obtain⟨fa,o',ha,ho⟩:=S1.own _ m;obtain⟨dx,xs,rfl,hl,il⟩:=ho F1 ?AE;obtain⟨x,h1,h2⟩:=cB il l;exact⟨a,C,dx,_,x,rfl,ha,c,n,h1,d,Ω1,F1,S1,f1,h2,r⟩)
end
def qY (es:?AU)(p:?J)(b:?A0):?CB:=match es.find? fun s=>decide (s.1=p) with
 |none=>[]
 |some s=>match s.2.find? fun x=>decide (x.1=b) with
  |none=>[]
  |some x=>x.2
def kf (es:?AU)(p:?J)(h:Str):Rat:=ju (qY es p [h])
def byE (L:?A0)(ch:?I)(es:?AU)(p:?J)(h:Str):Rat:=ju (L.map fun o=>(kf es p o,chS L ch o h))
def QI (L:?A0)(ch:?I)(es:?AU)(p:?J)(kn:Kn):Kn:=L.foldl (fun k h=>v7 k h p.1 p.2 (byE L ch es p h)) kn
structure HdOk (t:PG)(i j:Nat):Prop where
 ij:?D∈t.hs.map ?C
 nd:t.s.L.Nodup
 ll:t.s.L.length<=30
 pr:∀ h∈t.s.L,K3 [.lst ((qY ?Af ?D [h]).map Y4)] ?C2
 sm:∀ h∈t.s.L,K3 [.lst ((t.s.L.map fun o=>(?I9,?HM)).map Y4)] (sh ?Fd)
 kl:t.kn.1.length<=100000
def nU:PG->List D->Prop:=fun t ds=>∃ (i j:Nat),ds=[.raw ?BV,.int (i:Int),.int (j:Int)]/\HdOk t i j
def Bk:?xD:=fun t ds t' d=>d=.non/\∀ (i j:Nat),ds=[.raw ?BV,.int (i:Int),.int (j:Int)]->t'={t with kn:=?JX}
theorem Vc {p:?J}:∀ {hs:List Hs},(?DP).find? ?zO=(hs.find? fun s=>decide (s.1=p)).map erS
 |[]=>rfl
 |s::hs=>by
  rw[yt,yS,yS,Vc (hs:=hs)];show(match decide (s.1=p) with|true=>_|false=>_)=_;cases decide (s.1=p) <;> rfl
theorem fe {b:?A0}:∀ {bs:List Hb},(bs.map erB).find? (fun x=>decide (x.1=b))=(bs.find? fun x=>decide (x.1=b)).map erB
 |[]=>rfl
 |x::bs=>by
  rw[yt,yS,yS,fe (bs:=bs)];show(match decide (x.1=b) with|true=>_|false=>_)=_;cases decide (x.1=b) <;> rfl
theorem X4 {hs:?B0}{p:?J}{s:Hs}{b:?A0}(h:hs.find? ?zO=some s):qY ?DP p b=match s.2.2.find? fun x=>decide (x.1=b) with|none=>[]|some x=>x.2.2:=by
 unfold qY;rw[Vc,h];show(match (s.2.2.map erB).find? _ with|none=>[]|some x=>x.2)=_;rw[fe];cases s.2.2.find? fun x=>decide (x.1=b) <;> rfl
theorem EC {κ:Type}[DecidableEq κ]{ks:?Ak}{k:κ}(h:k∉ks):pK ks k=ks++[k]:=by unfold pK;rw[ye h]
theorem Fa {κ α:Type}[DecidableEq κ]{ks:?Ak}{xs:?Ay}{k:κ}{x:α}(h:k∉ks):pA ks xs k x=xs++[x]:=by unfold pA;rw[ye h]
theorem sw {L:?A0}{k:Nat}{h:Str}(nd:?Gq)(hh:L[k]?=some h):qv h∉(L.take k).map qv:=fun z=>by
 obtain⟨y,hy,e⟩:=yn.mp z;have e:=j3 _ _ e;subst e;obtain⟨i,hi⟩:=List.mem_iff_getElem?.mp hy;rw[List.getElem?_take] at hi;split at hi
 .rename_i hk;have hl:i<L.length:=(?ED).1;have:=(List.getElem?_inj hl nd).mp (hi.trans hh.symm);lia
 .cases hi
theorem Dc {kn:Kn}{h:Str}{i j:Nat}{v:Rat}:knK (v7 kn h i j v)=pK (knK kn) ?D3:=(xM UR).symm
theorem CK {kn:Kn}{h:Str}{i j:Nat}{v:Rat}:knV (v7 kn h i j v)=pA (knK kn) (knV kn) ?D3 (sh v):=(xx UR).symm
theorem Dl {L:?A0}{f:Str->D}{o:Str}(nd:?Gq)(ho:o∈L):vA ?Bd (L.map f) (qv o)=some (f o):=by
 have:=VH (f:=qv) (g:=f) j3 (k:=o) (ks:=L) (xs:=L);rw[this];have e:vA L L o=some o:=by
  clear this nd f
  induction L with
  |nil=>cases ho
  |cons x L ih=>
   unfold vA at ih ⊢;rw[Yb,yS];by_cases e:x=o
   .rw[yL e,e];rfl
   .rw[yA e];exact ih ((yG.mp ho).resolve_left fun z=>e z.symm)
 rw[e];rfl
theorem bx {i j:Nat}{v:Str->Rat}:∀ {L:List Str} {kn:Kn},(L.foldl (fun k h=>v7 k h i j (v h)) kn).1.length<=kn.1.length+L.length
 |[],_=>yg _
 |h::L,kn=>by
  have a:=bx (i:=i) (j:=j) (v:=v) (L:=L) (kn:=v7 kn h i j (v h));have b:(v7 kn h i j (v h)).1.length<=kn.1.length+1:=xI;rw[Yz,yw];lia
theorem Ev {P:?A6}{w:?A5}{K:?A1}{Cp Cs:Addr}{t:PG}{l1 l2:?B0}{s:Hs}{y:Hb}(e:t.hs=l1++s::l2)(hy:y∈s.2.2):(y.2.1,YW K (y.2.2.map Y4))∈zQ P w K Cp Cs t:=(iF e).mem_iff.mpr (yb _ (yF _ (yq _ (yn.mpr ⟨y,hy,rfl⟩))))
theorem iw {hs hs':?B0}{p:?J}(h:hs'.map hsV=hs.map hsV)(m:p∈hs.map ?C):p∈hs'.map ?C:=by
 obtain⟨s,hs1,e⟩:=yn.mp m;have:hsV s∈hs'.map hsV:=by rw[h];exact yn.mpr ⟨s,hs1,rfl⟩
 obtain⟨s',hs2,e2⟩:=yn.mp this;exact yn.mpr ⟨s',hs2,by rw[←e];exact As (Prod.mk.inj e2).1⟩
theorem fm {b:?A0}{pr:?K}{n:Nat}:∀ {bs:List Eb},(∀ x∈bs,x.2.length<=n)->(ZH bs b pr).length<=bs.length+1/\∀ x∈ZH bs b pr,x.2.length<=n+1
 |[],_=>⟨yg _,fun x hx=>by rw[yy.mp (show x∈[(b,[pr])] from hx)];exact Nat.le_add_left _ _⟩
 |y::bs,h=>by
  have ih:=fm (b:=b) (pr:=pr) (n:=n) (bs:=bs) fun x hx=>h x ?Ap;have hy:=h y (by simp);show(?kC).length<=_/\∀ x∈?kC,_;split
  .refine⟨?G7,fun x hx=>?_⟩;rcases yG.mp hx with z|z
   .rw[z];show(y.2++[pr]).length<=n+1;rw[yK];exact Nat.add_le_add_right hy 1
   .exact qy (h x ?D0)
  .refine⟨Qv ih.1,fun x hx=>?_⟩;rcases yG.mp hx with z|z
   .rw[z];exact qy hy
   .exact ih.2 x z
theorem fH {p:?J}{b:?A0}{pr:?K}{n:Nat}:∀ {es:List Es},zo es n->zo ?LH (n+1)
 |[],_=>fun s hs=>by cases hs
 |s::es,h=>by
  have hs:=h s (by simp);have ih:=fH (p:=p) (b:=b) (pr:=pr) (es:=es) fun x hx=>h x ?Ap;show zo (if s.1=p then ?xU::es else s::wQ es p b pr) (n+1);split
  .intro x hx;rcases yG.mp hx with z|z
   .rw[z];have a:=fm (b:=b) (pr:=pr) hs.2;exact⟨yU a.1 (Nat.add_le_add_right hs.1 1),a.2⟩
   .have:=h x ?D0;exact⟨qy this.1,fun y hy=>qy (this.2 y hy)⟩
  .intro x hx;rcases yG.mp hx with z|z
   .rw[z];exact⟨qy hs.1,fun y hy=>qy (hs.2 y hy)⟩
   .exact ih x z
theorem v6 {L:?A0}{i j n:Nat}{b:?A0}{pr:?K}{es:?AU}(h:zo es n):zo ?He (n+1):=by
 unfold j4;split
 .exact fH h
 .exact fun s hs=>⟨qy (h s hs).1,fun x hx=>qy ((h s hs).2 x hx)⟩
def Ql (L:?A0)(br:?A4)(kn:Kn)(i j:Nat)(es:?AU):?AU:=br.foldl (fun es r=>j4 L es i j r.2.1 (JA kn r.1 i j,r.2.2)) es
theorem U9 {L:?A0}{kn:Kn}{i j n:Nat}{es:?AU}(h:zo es n):∀ {br:List yC},zo (Ql L br kn i j es) (n+br.length):=by
 intro br
 induction br generalizing es n with
 |nil=>exact h
 |cons r br ih=>
  have:=ih (v6 (L:=L) (i:=i) (j:=j) (b:=r.2.1) (pr:=(JA kn r.1 i j,r.2.2)) h);rw[yw,←Nat.add_assoc,Nat.add_right_comm];exact this
def gn:PG->List D->Prop:=fun t ds=>∃ (i j n:Nat),ds=[.raw ?BV,.int (i:Int),.int (j:Int)]/\?D∈t.hs.map ?C/\(∀ r∈t.s.br,1<=r.2.1.length)/\zo ?Af n/\n+t.s.br.length<10000000
def pV:?xD:=fun t ds t' d=>d=.non/\∀ (i j:Nat),ds=[.raw ?BV,.int (i:Int),.int (j:Int)]->∃ hs',t'={t with hs:=hs'}/\hs'.map erS=Ql t.s.L t.s.br t.kn i j ?Af/\hs'.map hsV=t.hs.map hsV
section
variable {τ:Type}{om:τ->Om}{C:?yB}{X:Cx}{B:Bs}{Γ:Ga}{Ω Ω4:Om}{e o:Expr}{es:?AW}{gs:?A7}{n k:Nat}{m:Str}{ps fs:?A0}{Cc a:Addr}{pos apos:Pos}{R:?X}
theorem ft (t t':τ)(d:D)(Ω4:Om){pl:?Gi}(ok:?MT)(c:?E3)(hr:?Am)(hm:(om t').map ?C=(om t).map ?C)(ho:V3 X B o Γ Ω fun dq Ω0=>dq=.raw ?AB/\(a,?Kz)∈Ω0/\VL3 X B (e::es) Γ Ω0 fun ds Ω1=>Ω1.Perm (om t++Ω4)/\C t ?zJ t' d/\ds.length+1=n/\R d ?jC)(hf:m∉fs)
  (hst:?T:=by rfl) (hpl:?zA:=by rfl)
  (ht:eval ?yO X.env=(do
   let ov ←eval o X.env
   standAt apos.atName
   let ?yJ ←holding [ov] (getMethod ov m pl)
   callWith pos f first ?wU ?zZ):=by rfl):?KF:=fun F σ H S pins s I=>by
 obtain⟨f,fd,Fn,hM,hb⟩:=ok;refine ?tV;subst e1;cases isR i1;obtain⟨fa,o1,ha1,ho1⟩:=S1.own _ hin;obtain⟨dx,xs,rfl,hl,il⟩:=ho1 F1 ?AE;refine⟨a,dx,_,rfl,ha1,ZC hf,(?Ba).mono fun us H2 ⟨ds,Ω1,F2,S2',f2,i2,pm,hC,hn,r⟩=>?_⟩;rw[yM];have S2:=S2'.perm pm.symm;have nd2:=S2.nd;rw[yk] at nd2;have ndt:=(?Ip).1;refine⟨t,?zJ,t',d,F2,hC,?xW,S2.fh,?KB,ndt,fun p hp=>?GI,fun v H' F' g1 g2 g3 g4 g5 iv=>⟨d,?jC,F',S2.back' g1 g2 g3 (fun b hb=>(g4 b hb).elim .inl fun z=>.inr ?BY) (by rw[hm];exact ndt) (fun p hp=>⟨.inl (by rw[←hm];exact ?GF),g5 p hp⟩),?OJ,iv,r⟩⟩
end
def kg (L hs row:?A0)(kn:Kn)(b:?A0)(tot:Rat)(i j:Nat)(acc:?yF)(k:Nat):?yF:=
 (j4 L (j4 L acc.1 i (i+1+k) (b.take 1) (tot,(wBm hs row kn b.tail (i+1+k) j acc.2).1)) (i+1+k) j b.tail (tot,woS hs row kn i (i+1+k) (b.headD "")),(wBm hs row kn b.tail (i+1+k) j acc.2).2)
def ZO (L hs row:?A0)(kn:Kn)(i j:Nat)(tot:?wD)(acc:?yF)(b:?A0):?yF:=(List.range (nP b.length i j)).foldl (kg L hs row kn b (tot b) i j) acc
def jC (es:?AU)(p:?J):?EI:=match es.find? fun s=>decide (s.1=p) with
 |none=>[]
 |some s=>(s.2.map ?C).filter fun b=>decide (1<b.length)
def ZU (L hs row:?A0)(kn:Kn)(i j:Nat)(acc:?yF):?yF:=(jC acc.1 ?D).foldl (ZO L hs row kn i j fun b=>ju (qY acc.1 ?D b)) acc
theorem aB {p q:?J}{b:?A0}{pr:?K}(h:q≠p):∀ {es:List Es},(?LH).find? (fun s=>decide (s.1=q))=es.find? fun s=>decide (s.1=q)
 |[]=>rfl
 |s::es=>by
  show(if s.1=p then ?xU::es else s::wQ es p b pr).find? _=_;split
  .rename_i e;rw[yS,yS];have n:decide (s.1=q)=false:=yA fun z=>h (z▸e);show(match decide (s.1=q) with|true=>_|false=>_)=(match decide (s.1=q) with|true=>_|false=>_)
   rw[n]
  .rw[yS,yS,aB h (es:=es)]
theorem xD {L:?A0}{i j:Nat}{q:?J}{b:?A0}{pr:?K}{es:?AU}(h:q≠?D):(?He).find? (fun s=>decide (s.1=q))=es.find? fun s=>decide (s.1=q):=by
 unfold j4;split
 .exact aB h
 .rfl
theorem oW {L hs row:?A0}{kn:Kn}{b:?A0}{tot:Rat}{i j k:Nat}{acc:?yF}(h:i+1+k<j):(kg L hs row kn b tot i j acc k).1.find? (fun s=>decide (s.1=?D))=acc.1.find? fun s=>decide (s.1=?D):=by
 unfold kg;rw[xD (fun e=>by have:=(Prod.mk.inj e).1;lia),xD (fun e=>by have:=(Prod.mk.inj e).2;lia)]
theorem KY:∀ {bs:List Hb},zB true (bs.map fun x=>Yd x.1)=true
 |[]=>rfl
 |x::bs=>by
  have h1:∀ b:List Str,zB true ?IN=true:=fun b=>by
   induction b with
   |nil=>rfl
   |cons y b ih=>rw[yt,zB,ih];rfl
  rw[yt,zB,KY (bs:=bs),Bool.and_true];unfold Yd;rw[jL];exact h1 _
theorem U8 {bs:?EH}:((bs.map hbV).map fun p=>kD p.1)=bs.map fun x=>Yd x.1:=by
 rw[YB];exact Jv fun x _=>sM
def vf (bs:?EH):?A7:=(bs.filter fun x=>decide (1<x.1.length)).map fun x=>Yd x.1
theorem o8 {bs:?EH}:(vf bs).length<=bs.length:=by
 unfold vf;rw[yd];exact Yv _ _
theorem pO {bs:?EH}{x:Hb}(h:1<x.1.length):vf (bs++[x])=vf bs++[Yd x.1]:=by
 unfold vf;rw[qu,YD (by simpa using h),yk];rfl
theorem tK {bs:?EH}{x:Hb}(h:¬ 1<x.1.length):vf (bs++[x])=vf bs:=by
 unfold vf;rw[qu,YE (by simpa using h)];simp
structure WiOk (t:PG)(i j n M b:Nat):Prop where
 ij:i<j
 jr:j<=t.s.row.length
 sp:∀ x y,i<=x->x<y->y<=j->(x,y)∈t.hs.map ?C
 gs:GsOk t.s M b
 el:zo ?Af n
 nl:n+10*(?FE).length<10000000
 kl:t.s.kw.length+6000*(?FE).length<=15900000
 lg:∀ b∈jC (t.hs.map erS) ?D,b.length<=4/\K3 [.lst ((qY ?Af ?D b).map Y4)] (sh ?C6)
def lj:PG->List D->Prop:=fun t ds=>∃ (i j n M b:Nat),ds=[.raw ?BV,.int (i:Int),.int (j:Int)]/\WiOk t i j n M b
def og:?xD:=fun t ds t' d=>d=.non/\∀ (i j:Nat),ds=[.raw ?BV,.int (i:Int),.int (j:Int)]->∃ hs',t'={t with hs:=hs',s:={t.s with kw:=(ZU t.s.L t.s.hs t.s.row t.s.kn i j (?Af,?ER)).2}}/\hs'.map erS=(ZU t.s.L t.s.hs t.s.row t.s.kn i j (?Af,?ER)).1/\hs'.map hsV=t.hs.map hsV
structure WaOk (M n m:Nat)(es:?AU)(p:?J)(a:?yF):Prop where
 el:zo a.1 n
 kw:KwD M a.2
 kl:a.2.length<=m
 fd:a.1.find? ?zO=es.find? fun s=>decide (s.1=p)
section
variable {M n m i j:Nat}{L hs row:?A0}{kn:Kn}{es:?AU}{acc:?yF}
theorem zo.up (h:zo es n)(l:n<=m):zo es m:=fun s hs=>⟨yU (h s hs).1 l,fun x hx=>yU ((h s hs).2 x hx) l⟩
theorem WaOk.mid (hM:32<=M)(hk:?FJ)(hj:j - i<=5){b:?A0}(h2:2<=b.length)(h4:b.length<=4){tot:Rat}:∀ k,k<=nP b.length i j->WaOk M n m es ?D acc->WaOk M (n+2*k) (m+1331*k) es ?D ((?Es).foldl ?Nk acc)
 |0,_,h=>h
 |k+1,hk',h=>by
  have a:=WaOk.mid hM hk hj h2 h4 (tot:=tot) k ?A h;rw[qw,y7];generalize (?Es).foldl ?Nk acc=c at *;have hn:i+1+k+1<=j:=by unfold nP at hk';lia
  have tl:b.tail.length=b.length - 1:=qq;obtain⟨_,_,w3,w4⟩:=wn (hs:=hs) (row:=row) hM hk b.tail ?tC (i+1+k) j c.2 ?A ?A a.kw;have h11:11 ^ b.tail.length<=11 ^ 3:=YU ?B ?A;refine⟨(v6 (v6 a.el)).up ?A,w3,?_,(oW ?A).trans a.fd⟩;have:=a.kl;show(wBm hs row kn b.tail (i+1+k) j c.2).2.length<=_;lia
theorem WaOk.body (hM:32<=M)(hk:?FJ)(hj:j - i<=5){b:?A0}(h2:2<=b.length)(h4:b.length<=4){tot:?wD}(h:WaOk M n m es ?D acc):WaOk M (n+8) (m+5324) es ?D (ZO L hs row kn i j tot acc b):=by
 have a:=h.mid (L:=L) (hs:=hs) (row:=row) hM hk hj h2 h4 (tot:=tot b) _ ?AH;have np:nP b.length i j<=4:=by unfold nP;lia
 exact ?Mq
theorem WaOk.bodies (hM:32<=M)(hk:?FJ)(hj:j - i<=5){tot:?wD}:∀ {bs:List (List Str)},(∀ b∈bs,2<=b.length/\b.length<=4)->∀ {n m:Nat} {acc:List Es×Kw},WaOk M n m es ?D acc->WaOk M (n+8*bs.length) (m+5324*bs.length) es ?D (bs.foldl ?OC acc)
 |[],_,n,m,acc,h=>h
 |b::bs,hb,n,m,acc,h=>by
  have b1:=hb b (by simp);have a:=WaOk.bodies hM hk hj (tot:=tot) (bs:=bs) (fun x hx=>hb x ?Ap) (h.body (L:=L) (hs:=hs) (row:=row) hM hk hj b1.1 b1.2 (tot:=tot));rw[Yz,yw];exact ?Mq
end
theorem aY {es:?AU}{p:?J}{b:?A0}(h:b∈jC es p):2<=b.length:=by
 unfold jC at h;split at h
 .cases h
 .exact of_decide_eq_true (Ys.mp h).2
theorem eE {es es':?AU}{p:?J}{b:?A0}(h:es'.find? ?zO=es.find? fun s=>decide (s.1=p)):qY es' p b=qY es p b:=by
 unfold qY;rw[h]
theorem C5 {hs:?B0}{p:?J}{s:Hs}(h:hs.find? ?zO=some s):vf s.2.2=(jC ?DP p).map Yd:=by
 unfold vf jC;rw[Vc,h];show _=(((s.2.2.map erB).map ?C).filter fun b=>decide (1<b.length)).map Yd;rw[YB,List.filter_map,YB];rfl
theorem DA {hs hs':?B0}{p:?J}{b:?A0}{s0:Hs}(hv:hs'.map hsV=hs.map hsV)(h0:hs.find? ?zO=some s0)(hf:(?MH).find? ?zO=(?DP).find? fun s=>decide (s.1=p))(hb:b∈jC ?DP p) :
  ∃ s y l1 l2,hs'=l1++s::l2/\s.2.1=s0.2.1/\y∈s.2.2/\atD (s.2.2.map hbV) (kBd b)=some (.raw (.ref y.2.1))/\y.2.2=qY ?DP p b:=by
 have hat:=K6 (p:=p) (hs:=hs');rw[hv,K6,h0] at hat
 have hff:=hf;rw[Vc,Vc,h0] at hff;cases e:hs'.find? ?zO with
 |none=>rw[e] at hff;cases hff
 |some s=>
  rw[e] at hat hff;have a1:s.2.1=s0.2.1:=by
   have:=Option.some.inj hat
   simpa using this.symm
  obtain⟨l1,l2,e1,_,_⟩:=Zo e;have hm:b∈s.2.2.map ?C:=by
   unfold jC at hb;rw[←hf,Vc,e] at hb;have:=(Ys.mp hb).1;have this:b∈(s.2.2.map erB).map ?C:=this;rw[YB] at this;exact this
  obtain⟨y0,hy0,ey0⟩:=yn.mp hm;cases q:s.2.2.find? (fun x=>decide (x.1=b)) with
  |none=>
   have:=zb.mp q y0 hy0;simp[ey0] at this
  |some y=>
   refine⟨s,y,l1,l2,e1,a1,Yx q,by rw[WO,q];rfl,?_⟩;rw[←eE hf,X4 e,q]
theorem HZ {d:D}{ds:?A7}:vQ (d::ds) none (some 1)=[d]:=by
 unfold vQ;simp[HT.sIx]
open Classical in
theorem BA {α:Type}{a b c:α}{g h:List α}:(a::b::c::g++h).Perm (g++(a::b::c::h)):=by
 rw[Qq];intro x;simp only[jR,Q0,YQ];lia
section
variable {M n e f k:Nat}{q:Rat}
theorem OkN.den (hM:0<M)(h:OkN M n e q):q.den ∣ M ^ e:=by
 obtain⟨z,rfl,_⟩:=h;have:=Ub (D:=M) (e:=e) hM;rw[Rat.den_divInt,ye ?A];exact Nat.div_dvd_of_dvd (by exact Int.gcd_dvd_natAbs_left _ _)
theorem OkN.ups (hM:0<M):∀ {k n e:Nat},OkN M n e q->n<=M ^ k->OkD M (e+k) q
 |0,n,e,h,l=>h.more (by simpa using l)
 |k+1,n,e,h,l=>by
  obtain⟨z,e1,e2⟩:=h;have a:OkN M (M ^ k) (e+1) q:=by
   refine⟨z*M,?_,?_⟩
   .rw[e1,QJ,qK,qK,Ks ?A]
   .rw[show 2*(e+1)=2*e+1+1 by lia,QJ,QJ];have:=YI M (yU e2 (YI (M ^ (2*e)) l));rw[QJ] at this;refine yU this (Nat.le_of_eq ?_);grind
  have:=OkN.ups hM a ?AH;rw[show e+(k+1)=e+1+k by lia];exact this
end
def xO (M e:Nat)(p:?K):Prop:=OkD M e p.1/\OkD M e p.2/\OkD M e (p.1*p.2)
theorem Km {M e f g:Nat}{p q:Rat}(hM:0<M)(h1:OkD M e p)(h2:OkD M f q)(l:e+f<=g):xO M g (p,q):=⟨h1.mono hM ?A,h2.mono hM ?A,(h1.mul hM h2).mono hM l⟩
theorem wR {M b e:Nat}{ps:?CB}(hM:32<=M)(hb:M<2 ^ b)(bl:b<=16500)(he:e<=100)(hl:ps.length<=1000000)(h:∀ p∈ps,xO M e p):K3 [.lst ?Ie] (sh (ju ps)):=by
 have m0:0<M:=by lia
 have eb:e*b<=100*16500:=qt he bl;refine⟨ps,M ^ (e+e),2*e*b+1,2*e*b+1,rfl,rfl,fun p hp=>?_,jQ m0,?_,?_⟩
 .obtain⟨h1,h2,_⟩:=h p hp;refine⟨⟨h1.nn m0,h1.sz m0 hb⟩,⟨h2.nn m0,h2.sz m0 hb⟩,?_⟩;rw[jk];exact Nat.mul_dvd_mul (h1.den m0) (h2.den m0)
 .have h1:M ^ (e+e)<=2 ^ (b*(e+e)):=by have:=Nat.pow_le_pow_left (Qb hb) (e+e);rwa [←Nat.pow_mul] at this
  refine QS h1 (Nat.pow_lt_pow_right ?B ?_);have:b*(e+e)=2*e*b:=by grind
  lia
 .rw[Nat.mul_assoc];lia
theorem AZ {M e:Nat}{ps:?CB}(hM:32<=M)(hl:ps.length<=32768)(h:∀ p∈ps,xO M e p):OkD M (e+3) (ju ps):=by
 refine OkN.ups ?A (kU ?A fun p hp=>(h p hp).2.2) (yU hl ?_);exact Nat.pow_le_pow_left (n:=32) hM 3
def sfL (L:?A0)(br:?A4):?EI:=L.map (fun h=>[h])++br.flatMap fun r=>[r.2.1,r.2.1.tail,r.2.1.tail.tail]
theorem Ci {L:?A0}:∀ {br:List yC},(sfL L br).length=L.length+3*br.length:=by
 intro br;unfold sfL;rw[yK,yd];congr 1
 induction br with
 |nil=>rfl
 |cons r br ih=>rw[Qt,yK,ih];show 3+_=3*(br.length+1);lia
theorem CD {L:?A0}{br:?A4}{b:?A0}(hb:∀ r∈br,r.2.1.length<=4)(h:b∈sfL L br)(h2:2<=b.length):b.tail∈sfL L br∨b.tail.length=1:=by
 unfold sfL at h ⊢;rcases Yj.mp h with z|z
 .obtain⟨x,_,rfl⟩:=yn.mp z;simp at h2
 .obtain⟨r,hr,z⟩:=Y1.mp z;have hr4:=hb r hr;simp only[yG,Y8,or_false] at z;rcases z with z|z|z
  .exact .inl (yF _ (Y1.mpr ⟨r,hr,by rw[z];simp⟩))
  .exact .inl (yF _ (Y1.mpr ⟨r,hr,by rw[z];simp⟩))
  .refine .inr ?_;have:=qq (l:=b);rw[z,qq,qq] at h2;rw[z,qq,qq,qq];lia
def lvE (n:Nat)(p:?J)(b:?A0):Nat:=13*(n - (p.2 - p.1))+if 1<b.length then 6 else 0
structure EsOk (M n:Nat)(L:?A0)(br:?A4)(es:?AU):Prop where
 ks:∀ s∈es,(s.2.map ?C).Nodup/\∀ x∈s.2,x.1∈sfL L br
 pr:∀ s∈es,∀ x∈s.2,∀ p∈x.2,xO M (lvE n s.1 x.1) p
theorem Wy {b:?A0}{pr:?K}:∀ {bs:List Eb} {x:Eb},x∈ZH bs b pr->x∈bs∨(x.1=b/\∀ p∈x.2,p=pr∨∃ y∈bs,y.1=b/\p∈y.2)
 |[],x,h=>by
  have h:x∈[(b,[pr])]:=h;rw[yy.mp h];exact .inr ⟨rfl,fun p hp=>.inl (yy.mp hp)⟩
 |y::bs,x,h=>by
  have h:x∈?kC:=h;split at h
  .rename_i e;rcases yG.mp h with z|z
   .refine .inr ⟨by rw[z];exact e,fun p hp=>?_⟩;rw[z] at hp;rcases Yj.mp hp with q|q
    .exact .inr ⟨y,by simp,e,q⟩
    .exact .inl (yy.mp q)
   .exact .inl ?D0
  .rcases yG.mp h with z|z
   .exact .inl (by rw[z];simp)
   .rcases Wy z with q|⟨q1,q2⟩
    .exact .inl (yb _ q)
    .refine .inr ⟨q1,fun p hp=>(q2 p hp).imp id fun⟨u,h1,h2⟩=>⟨u,yb _ h1,h2⟩⟩
theorem ab {b:?A0}{pr:?K}:∀ {bs:List Eb},(ZH bs b pr).map ?C=if b∈bs.map ?C then bs.map ?C else bs.map ?C++[b]
 |[]=>rfl
 |y::bs=>by
  show List.map ?C ?kC=_;by_cases e:y.1=b
  .rw[yf e,yf (by rw[←e];simp)];rfl
  .rw[ye e,yt,yt,ab (bs:=bs)];have:b∈y.1::bs.map ?C ↔ b∈bs.map ?C:=by simp[Ne.symm e]
   by_cases q:b∈bs.map ?C
   .rw[yf q,yf (this.mpr q)]
   .rw[ye q,ye fun z=>q (this.mp z)];rfl
theorem xu {p:?J}{b:?A0}{pr:?K}:∀ {es:List Es} {s:Es},s∈wQ es p b pr->s∈es∨∃ s0∈es,s0.1=p/\s=(s0.1,ZH s0.2 b pr)
 |[],s,h=>by cases h
 |y::es,s,h=>by
  have h:s∈(if y.1=p then (y.1,ZH y.2 b pr)::es else y::wQ es p b pr):=h;split at h
  .rename_i e;rcases yG.mp h with z|z
   .exact .inr ⟨y,by simp,e,z⟩
   .exact .inl ?D0
  .rcases yG.mp h with z|z
   .exact .inl (by rw[z];simp)
   .rcases xu z with q|⟨s0,h1,h2⟩
    .exact .inl (yb _ q)
    .exact .inr ⟨s0,yb _ h1,h2⟩
theorem aA {p:?J}{b:?A0}{pr:?K}:∀ {es:List Es},(?LH).map ?C=es.map ?C
 |[]=>rfl
 |y::es=>by
  show List.map ?C (if y.1=p then (y.1,ZH y.2 b pr)::es else y::wQ es p b pr)=_;split
  .rfl
  .rw[yt,aA (es:=es)];rfl
theorem Vr {L:?A0}{i j:Nat}{b:?A0}{pr:?K}{es:?AU}:(?He).map ?C=es.map ?C:=by
 unfold j4;split
 .exact aA
 .rfl
theorem EsOk.hand {M n i j:Nat}{L b:?A0}{br:?A4}{es:?AU}{pr:?K}(h:?Hk)(hb:b∈sfL L br∨b.length=1)(hp:xO M (lvE n ?D b) pr):EsOk M n L br ?He:=by
 unfold j4;split
 .rename_i hk;have hb:b∈sfL L br:=by
   rcases hb with z|z
   .exact z
   .unfold kF at hk;obtain⟨x,rfl⟩:=QK.mp z;simp at hk;exact yq _ (yn.mpr ⟨x,hk.2,rfl⟩)
  refine⟨fun s hs=>?_,fun s hs x hx p hp'=>?_⟩
  .rcases xu hs with z|⟨s0,h1,h2,rfl⟩
   .exact h.ks s z
   .obtain⟨k1,k2⟩:=h.ks s0 h1;constructor
    .show((ZH s0.2 b pr).map ?C).Nodup;rw[ab];split
     .exact k1
     .rename_i q;rw[Ye];exact⟨k1,by simp,fun a ha c hc e=>q (by rw[yy.mp hc] at e;exact e▸ha)⟩
    .intro x hx;rcases Wy hx with q|⟨q,_⟩
     .exact k2 x q
     .rw[q];exact hb
  .rcases xu hs with z|⟨s0,h1,h2,rfl⟩
   .exact h.pr s z x hx p hp'
   .rcases Wy hx with q|⟨q1,q2⟩
    .exact h.pr s0 h1 x q p hp'
    .rcases q2 p hp' with r|⟨y,y1,y2,y3⟩
     .rw[r,q1];show xO M (lvE n s0.1 b) pr;rw[h2];exact hp
     .have:=h.pr s0 h1 y y1 p y3;rw[y2] at this;rw[q1];exact this
 .exact h
theorem EsOk.pairs {M n:Nat}{L b:?A0}{br:?A4}{es:?AU}{p:?J}(h:?Hk):∀ q∈qY es p b,xO M (lvE n p b) q:=fun q hq=>by
 unfold qY at hq;split at hq
 .cases hq
 .rename_i s hs;split at hq
  .cases hq
  .rename_i x hx;have a:=h.pr s (Yx hs) x (Yx hx) q hq;have e1:s.1=p:=by simpa using Jk hs
   have e2:x.1=b:=by simpa using Jk hx
   rw[e1,e2] at a;exact a
theorem VM {n:Nat}{b:?A0}{es:?AU}{p:?J}(h:zo es n):(qY es p b).length<=n:=by
 unfold qY;split
 .exact YC _
 .rename_i s hs;split
  .exact YC _
  .rename_i x hx;exact(h s (Yx hs)).2 x (Yx hx)
theorem pN {M n:Nat}{L:?A0}{br:?A4}{es:?AU}{p:?J}(h:?Hk):(jC es p).length<=L.length+3*br.length/\∀ b∈jC es p,b∈sfL L br:=by
 unfold jC;split
 .exact⟨YC _,fun b hb=>by cases hb⟩
 .rename_i s hs;obtain⟨k1,k2⟩:=h.ks s (Yx hs);have sub:∀ b∈(s.2.map ?C).filter fun b=>decide (1<b.length),b∈sfL L br:=fun b hb=>by
   obtain⟨x,hx,rfl⟩:=yn.mp (Ys.mp hb).1;exact k2 x hx
  refine⟨?_,sub⟩;rw[←Ci];exact cM (k1.filter _) sub
section
variable (hs row:?A0)(T:?zP)
def wT (x:Str)(i j:Nat):Rat:=if x∈hs then T x i j else if j=i+1/\row[i]?=some x then 1 else 0
def wP:List Str->Nat->Nat->Rat
 |[],i,j=>if i=j then 1 else 0
 |x::xs,i,j=>qX ?P fun t=>wT hs row T x i (i+1+t)*wP xs (i+1+t) j
end
section
variable {T:?zP}
theorem xr:∀ {b:List Str} {i j:Nat},j<i+b.length->wP hs row T b i j=0
 |[],i,j,h=>by
  rw[qb] at h;rw[wP,ye ?A]
 |x::xs,i,j,h=>by
  rw[wP];refine Kt fun t ht=>?_;rw[yw] at h;rw[xr (b:=xs) (by lia)];grind
theorem Ud {f:?W}:∀ {m:Nat},n<=m->(∀ t,n<=t->t<m->f t=0)->qX m f=qX n f
 |0,h,_=>by rw[Nat.le_zero.mp h]
 |m+1,h,z=>by
  rcases JN n (m+1) with q|q
  .rw[qX,Ud (m:=m) ?A fun t a b=>z t a ?A,z m ?A ?A];grind
  .rw[show n=m+1 by lia]
theorem rR(h:i<j):wP hs row T [x] i j=wT hs row T x i j:=by
 rw[wP,←mJ (n:=?P) (k:=j - i - 1) (c:=wT hs row T x i j) ?A];refine JS fun t ht=>?_;rw[wP];by_cases e:t=j - i - 1
 .rw[yf e,yf ?A,show i+1+t=j by lia];grind
 .rw[ye e,ye ?A];grind
def Agr (row:?A0)(T:?zP)(kn:Kn)(n:Nat):Prop:=∀ h i j,i<j->j<=row.length->j - i<n->JA kn h i j=T h i j
def KwE (hs row:?A0)(T:?zP)(kw:Kw):Prop:=∀ p∈kw,p.2=wP hs row T p.1.1 p.1.2.1 p.1.2.2
theorem DX(a:Agr row T kn n)(hij:i<j)(hj:?wC)(h:x∉hs∨j - i<n):woS hs row kn i j x=wT hs row T x i j:=by
 unfold woS wT;by_cases hx:x∈hs
 .rw[yf hx,yf hx];exact a x i j hij hj (h.resolve_left fun z=>z hx)
 .rw[ye hx,ye hx]
theorem AF(a:Agr row T kn n):∀ (b:List Str) (i j:Nat) (kw:Kw),b≠[]->i<j->j<=row.length->j - i<=n->(∀ x,b=[x]->x∉hs∨j - i<n)->KwE hs row T kw->(?Dj).1=wP hs row T b i j/\KwE hs row T (?Dj).2
 |[],_,_,_,h,_,_,_,_,_=>absurd rfl h
 |[x],i,j,kw,_,hij,hj,hn,h1,hk=>by
  rw[wBm];exact⟨by rw[rR hij];exact DX a hij hj (h1 x rfl),hk⟩
 |x::y::rest,i,j,kw,_,hij,hj,hn,_,hk=>by
  rw[wBm];cases q:kH kw ?qU with
  |some v=>exact⟨hk _ (dJ q),hk⟩
  |none=>
   have go:∀ t,t<=nP (rest.length+2) i j->ju ((?GD).foldl ?zW ?zY).1=qX t (fun t=>wT hs row T x i (i+1+t)*wP hs row T ?zE (i+1+t) j)/\KwE hs row T ((?GD).foldl ?zW ?zY).2:=by
    intro t
    induction t with
    |zero=>intro _;exact⟨rfl,hk⟩
    |succ t ih=>
     intro ht;obtain⟨e1,e2⟩:=ih ?A;rw[qw,y7];generalize (?GD).foldl ?zW ?zY=acc at *;have hm:i+1+t+1<=j:=by unfold nP at ht;lia
     have wx:woS hs row kn i (i+1+t) x=wT hs row T x i (i+1+t):=DX a ?A ?A (.inr ?A);obtain⟨f1,f2⟩:=AF a ?zE (i+1+t) j acc.2 (by simp) ?A hj ?A (fun _ _=>.inr ?A) e2;rw[Yz,List.foldl_nil,qX];unfold ja;dsimp only;by_cases z:woS hs row kn i (i+1+t) x=0
     .rw[yf z];refine⟨?_,e2⟩;rw[e1,←wx,z];grind
     .rw[ye z];refine⟨?_,f2⟩;dsimp only;rw[Kl,e1,f1,wx]
   obtain⟨e1,e2⟩:=go _ ?AH;dsimp only;generalize (?G2).foldl ?zW ?zY=acc at *;have v:ju acc.1=wP hs row T (x::y::rest) i j:=by
    rw[e1,wP];refine(Ud (by unfold nP;lia) fun t h1 h2=>?_).symm;rw[xr (b:=?zE) (by rw[yw];unfold nP at h1;lia)];grind
   refine⟨v,fun p hp=>?_⟩;rcases eX hp with z|z
   .subst z;exact v
   .exact e2 p z
end
section
end
section
variable {M n i j:Nat}{hs row L:?A0}{T:?zP}{br:?A4}{kn:Kn}{kw:Kw}
def eW (hs row:?A0)(T:?zP)(br:?A4)(i j:Nat)(h:Str):Rat:=wK (fun r=>if r.1=h then r.2.2*wP hs row T r.2.1 i j else 0) br
structure EW (hs row L:?A0)(T:?zP)(br:?A4)(i j:Nat)(a:En×Kw):Prop where
 nd:a.1.1.Nodup
 eq:a.1.1.length=a.1.2.length
 keys:∀ x∈a.1.1,x∈L
 val:∀ h,(vA a.1.1 a.1.2 h).getD 0=eW hs row T br i j h
 out:∀ h,h∉a.1.1->eW hs row T br i j h=0
 kw:KwE hs row T a.2
theorem Ee (a:Agr row T kn ?P)(hij:i<j)(hj:?wC)(hb:BrG M hs L br)(hk:KwE hs row T kw):∀ n,n<=br.length->EW hs row L T (br.take n) i j ((br.take n).foldl ?Ed ?yD)
 |0,_=>⟨Qa,rfl,(fun x hx=>by cases hx),(fun h=>rfl),(fun h _=>rfl),hk⟩
 |n+1,hn=>by
  have hr:br[n]?=some br[n]:=yl ?A;have c:=Ee a hij hj hb hk n ?A;rw[Yg hr,y7];have hm:=yx hr;generalize br.take n=b0' at *;generalize b0'.foldl ?Ed ?yD=acc at *;generalize br[n]=r at *;obtain⟨b1,b2,b3⟩:=hb.body r hm;obtain⟨w1,w2⟩:=AF (hs:=hs) a r.2.1 i j acc.2 (fun e=>by rw[e] at b1;simp at b1) hij hj ?AH (fun x e=>.inl (b3 x e)) c.kw;rw[Yz,List.foldl_nil];unfold Q9;have ev:∀ h,eW hs row T (b0'++[r]) i j h=eW hs row T b0' i j h+if r.1=h then r.2.2*wP hs row T r.2.1 i j else 0:=fun h=>Ki
  rw[w1];by_cases e:wP hs row T r.2.1 i j=0
  .rw[yf e];have ev':∀ h,eW hs row T (b0'++[r]) i j h=eW hs row T b0' i j h:=fun h=>by rw[ev,e];split <;> grind
   exact⟨c.nd,c.eq,c.keys,fun h=>by rw[ev'];exact c.val h,fun h hh=>by rw[ev'];exact c.out h hh,w2⟩
  .rw[ye e];refine⟨fP c.nd,kj c.eq,fun x hx=>?_,fun h=>?_,fun h hh=>?_,w2⟩
   .rcases i8 hx with z|z
    .rw[z];exact hb.hd r hm
    .exact c.keys x z
   .show(vA (pK acc.1.1 r.1) (pA acc.1.1 acc.1.2 r.1 _) h).getD 0=_;rw[h6 c.eq,ev,←c.val h];by_cases eh:h=r.1
    .subst eh;rw[yf rfl,yf rfl];rfl
    .rw[ye eh,ye (fun z=>eh z.symm)];grind
   .have h1:¬ r.1=h:=fun z=>hh (by
     show h∈pK acc.1.1 r.1;unfold pK;split
     .rename_i q;exact z▸q
     .rw[←z];simp)
    have h2:h∉acc.1.1:=fun z=>hh (by
     show h∈pK acc.1.1 r.1;unfold pK;split
     .exact z
     .exact yq _ z)
    rw[ev,c.out h h2,ye h1];grind
theorem Uh {ch:?I}(hl:kn.1.length=kn.2.length)(hz:∀ h,JA kn h i j=0):∀ n,n<=L.length->((?Ix).foldl ?Ep kn).1.length=((?Ix).foldl ?Ep kn).2.length/\∀ h i' j',JA ((?Ix).foldl ?Ep kn) h i' j'=if i'=i/\j'=j then (if h∈L.take n then u0 L ch e h else 0) else JA kn h i' j'
 |0,_=>⟨hl,fun h i' j'=>by
  by_cases q:i'=i/\j'=j
  .rw[yf q,q.1,q.2];exact hz h
  .rw[ye q];rfl⟩
 |n+1,hn=>by
  have hr:L[n]?=some L[n]:=yl ?A;obtain⟨a1,a2⟩:=Uh (ch:=ch) (e:=e) hl hz n ?A;rw[Yg hr,y7,Yz,List.foldl_nil];generalize (?Ix).foldl ?Ep kn=k' at *;generalize L[n]=x at *;unfold QU;by_cases z:u0 L ch e x=0
  .rw[yf z];refine⟨a1,fun h i' j'=>?_⟩;rw[a2 h];by_cases q:i'=i/\j'=j
   .rw[yf q,yf q];by_cases m:h∈L.take n
    .rw[yf m,yf (yq _ m)]
    .rw[ye m];by_cases e2:h=x
     .rw[yf (by rw[e2];simp),e2,z]
     .rw[ye (by simp[m,e2])]
   .rw[ye q,ye q]
  .rw[ye z];refine⟨AV a1,fun h i' j'=>?_⟩;rw[Br a1,a2 h];by_cases q:i'=i/\j'=j
   .rw[yf q,yf q];by_cases e2:h=x
    .rw[yf ⟨e2,q⟩,yf (by rw[e2];simp),e2]
    .rw[ye (fun z=>e2 z.1)];by_cases m:h∈L.take n
     .rw[yf m,yf (yq _ m)]
     .rw[ye m,ye (by simp[m,e2])]
   .rw[ye q,ye q,ye (fun z=>q z.2)]
end
theorem Wd(h:n<=5):(Y7 n).Nodup:=by
 rcases (show n=0∨n=1∨n=2∨n=3∨n=4∨n=5 by lia) with rfl|rfl|rfl|rfl|rfl|rfl <;> decide +kernel
theorem Bz(h:n<=5):((List.range (Y7 n).length).all fun k=>(Y7 n).all fun p=>!decide (p.2 - p.1<(?xN).2 - (?xN).1)||decide (p∈(Y7 n).take k))=true:=by
 rcases (show n=0∨n=1∨n=2∨n=3∨n=4∨n=5 by lia) with rfl|rfl|rfl|rfl|rfl|rfl <;> decide +kernel
theorem uV(h:i<j)(hj:j<=n):?D∈Y7 n:=by
 unfold Y7;refine Y1.mpr ⟨j - i - 1,qS.mpr ?A,yn.mpr ⟨i,qS.mpr ?A,?_⟩⟩;rw[show i+(j - i - 1)+1=j by lia]
theorem CQ(h:n<=5)(hk:k<(Y7 n).length)(hij:i<j)(hj:j<=n)(hl:j - i<(?xN).2 - (?xN).1):?D∈(Y7 n).take k:=by
 have a:=jZ.mp (Bz h) k (qS.mpr hk);have b:=jZ.mp a ?D (uV hij hj);rw[yL (show(i,j).2 - (i,j).1<_ from hl)] at b;simpa using b
def TW (rs:?A4)(row:?A0)(h:Str)(i j:Nat):Rat:=JA ?As h i j
section
variable {rs:?A4}{row:?A0}{M b s:Nat}
theorem xh (g:?BT)(h:Str):∀ k,k<=(?AT).length->∀ i j,?D∉(?AT).take k->JA (?B6).1 h i j=0
 |0,_,i,j,_=>rfl
 |k+1,hk,i,j,hn=>by
  have hp:(Y7 row.length)[k]?=some (Y7 row.length)[k]:=yl ?A;rw[Yg hp] at hn;have n1:?D∉(Y7 row.length).take k:=fun z=>hn (yq _ z);have n2:¬ (i=(Y7 row.length)[k].1/\j=(Y7 row.length)[k].2):=fun z=>hn (by rw[z.1,z.2];exact yF _ (yy.mpr rfl));have ih:=xh g h k ?A i j n1;have kk:=(Vt g k ?A).1.eq;have nk:((Y7 row.length)[k].1,(?AT)[k].2)∉(Y7 row.length).take k:=fun z=>by
   have nd:=(?Li).sublist (jB (k+1) _);rw[Yg hp,Ye] at nd;exact nd.2.2 _ z _ (by simp) rfl
  rw[v5 hp];unfold vE;dsimp only;have f:=(Uh (L:=?AA) (ch:=?B1) (e:=(vn ?AJ row (?B6).1 ?Ao (?AT)[k].1 (?AT)[k].2 (?B6).2).1) kk (fun x=>?Oz) _ ?AH).2 h i j;rw[yI] at f;rw[f,ye n2];exact ih
theorem rm (g:?BT)(hp:(?AT)[k]?=some p)(h:Str)(i j:Nat):JA (ZP rs row (k+1)).1 h i j=if i=p.1/\j=p.2 then (if h∈yQ rs then u0 ?AA ?B1 (vn ?AJ row (?B6).1 ?Ao p.1 p.2 (?B6).2).1 h else 0) else JA (?B6).1 h i j:=by
 have hk:=(?ET).1;have kk:=(Vt g k ?A).1.eq;have nk:(p.1,p.2)∉(Y7 row.length).take k:=fun z=>by
  have nd:=(?Li).sublist (jB (k+1) _);rw[Yg hp,Ye] at nd;exact nd.2.2 _ z p (by simp) rfl
 rw[v5 hp];unfold vE;dsimp only;have f:=(Uh (L:=?AA) (ch:=?B1) (e:=(vn ?AJ row (?B6).1 ?Ao p.1 p.2 (?B6).2).1) kk (fun x=>?Oz) _ ?AH).2 h i j;rw[yI] at f;exact f
theorem dU (g:?BT)(h:Str):∀ d k,k+d=(?AT).length->?D∈(?AT).take k->JA (?B6).1 h i j=TW rs row h i j
 |0,k,hd,_=>by
  unfold TW knG;rw[show k=(Y7 row.length).length by lia]
 |d+1,k,hd,hm=>by
  have hp:(Y7 row.length)[k]?=some (Y7 row.length)[k]:=yl ?A;have ih:=dU g h d (k+1) ?A (by rw[Yg hp];exact yq _ hm);rw[←ih,rm g hp,ye];intro z;have nd:=(?Li).sublist (jB (k+1) _);rw[Yg hp,Ye] at nd;exact nd.2.2 _ hm _ (by simp) (Prod.ext z.1 z.2)
theorem B3 (g:?BT)(hp:(?AT)[k]?=some p):Agr row ?BU (?B6).1 (p.2 - p.1):=fun h i j hij hj hl=>by
 have hk:=(?ET).1;have e:(Y7 row.length).getD k (0,0)=p:=by rw[yW,hp];rfl
 exact dU g h ((?AT).length - k) k ?A (CQ g.par.rl hk hij hj (by rw[e];exact hl))
theorem lZ (g:?BT):∀ k,k<=(?AT).length->KwE ?AJ row ?BU (?B6).2
 |0,_=>fun p hp=>by cases hp
 |k+1,hk=>by
  have hp:(Y7 row.length)[k]?=some (Y7 row.length)[k]:=yl ?A;have hi:=vK (yx hp);have e:=Ee (B3 g hp) hi.1 hi.2 g.par.br (lZ g k ?A) _ ?AH;rw[yI] at e;rw[v5 hp];exact e.kw
end
abbrev EA:=List Es×Kw×Kn
def dG (L hs row:?A0)(br:?A4)(ch:?I)(kn:Kn)(a:EA)(p:?J):EA:=
 ((ZU L hs row kn p.1 p.2 (Ql L br ?xM p.1 p.2 a.1,a.2.1)).1,(ZU L hs row kn p.1 p.2 (Ql L br ?xM p.1 p.2 a.1,a.2.1)).2,?xM)
def KbD (M n:Nat)(kn:Kn):Prop:=kn.1.length=kn.2.length/\∀ p∈kn.1.zip kn.2,OkD M (13*(n - (p.1.2.2 - p.1.2.1))+5) p.2
structure EInv (M n k:Nat)(L:?A0)(br:?A4)(a:EA):Prop where
 el:zo a.1 (1+400*k)
 es:EsOk M n L br a.1
 kw:KwD M a.2.1
 kl:a.2.1.length<=9000000+250000*k
 kb:KbD M n a.2.2
 kbl:a.2.2.1.length<=9*k
 sp:a.1.map ?C=Y7 n
theorem KbD.get {M n:Nat}{kn:Kn}(h:KbD M n kn){x:Str}{i j:Nat}:OkD M (13*(n - ?P)+5) ?Ll:=by
 unfold JA;cases q:vA kn.1 kn.2 (x,i,j) with
 |none=>exact bU
 |some v=>exact h.2 _ (tj q)
section
variable {M b n k i j:Nat}{L hs row:?A0}{br:?A4}{ch:?I}{kn:Kn}{a:EA}
theorem KbD.heads {es:?AU}(hv:∀ h∈L,OkD M (13*(n - ?P)+5) ?PU):∀ {hs:List Str} {kb:Kn},(∀ h∈hs,h∈L)->KbD M n kb->KbD M n (hs.foldl (fun k h=>v7 k h i j ?PU) kb)
 |[],kb,_,h=>h
 |x::hs,kb,hx,h=>by
  rw[Yz];refine KbD.heads hv (fun y hy=>hx y ?FQ) ⟨kj h.1,fun p hp=>?_⟩;rcases Bg h.1 hp with z|z
  .subst z;exact hv x (hx x (by simp))
  .exact h.2 p z
theorem EInv.fst (g:?DE)(h:?HZ)(hk:k<=20){x:Str}{p:?J}:OkD M (13*(n - (p.2 - p.1))+3) (kf a.1 p x):=by
 have:=h.es.pairs (p:=p) (b:=[x]);exact AZ g.d (yU (VM h.el) ?A) this
theorem EInv.prs (g:?DE)(h:?HZ)(hk:k<=20){p:?J}{x:Str}(hx:x∈L):∀ q∈(L.map fun o=>(kf a.1 p o,chS L ch o x)),xO M (13*(n - (p.2 - p.1))+4) q:=fun q hq=>by
 obtain⟨o,ho,rfl⟩:=yn.mp hq;have d:=g.d;exact Km ?A (h.fst g hk) (g.ch _ _ (qi.mpr ho) (qi.mpr hx)) ?A
theorem EInv.by_ (g:?DE)(h:?HZ)(hk:k<=20){p:?J}{x:Str}(hx:x∈L):OkD M (13*(n - (p.2 - p.1))+5) (byE L ch a.1 p x):=by
 have d:=g.d;have l:=g.ll;exact OkN.up ?A (kU ?A fun q hq=>(h.prs g hk hx q hq).2.2) ?qA
theorem EInv.kb' (g:?DE)(h:?HZ)(hk:k<=20){p:?J}:KbD M n ?xM:=KbD.heads (fun x hx=>h.by_ g hk hx) (fun x hx=>hx) h.kb
theorem EsOk.bodies {es:?AU}{kb:Kn}(g:?DE)(sub:∀ x∈L,x∈hs)(hkb:KbD M n kb)(h:?Hk):∀ {rs:List yC},(∀ r∈rs,r∈br)->∀ {es:List Es},EsOk M n L br es->EsOk M n L br ?PX
 |[],_,es,h=>h
 |r::rs,hr,es,h=>by
  have d:=g.d;have hrm:=hr r (by simp);obtain⟨b1,b4,b3⟩:=g.br.body r hrm;refine EsOk.bodies g sub hkb h (rs:=rs) (fun x hx=>hr x ?Ap) ?_;by_cases hl:1<r.2.1.length
  .refine h.hand (.inl (yF _ (Y1.mpr ⟨r,hrm,by simp⟩))) ?_;refine Km ?A hkb.get ?L3 ?_;unfold lvE;rw[yf hl];show 13*(n - ?P)+5+1<=_;lia
  .obtain⟨x,hx⟩:∃ x,r.2.1=[x]:=QK.mp ?A;have:j4 L es i j r.2.1 (JA kb r.1 i j,r.2.2)=es:=by
    unfold j4 kF;rw[hx,ye];have:x∉L:=fun z=>b3 x hx (sub x z);simp[this]
   show EsOk M n L br (j4 L es i j r.2.1 (JA kb r.1 i j,r.2.2));rw[this];exact h
theorem Vu {kb:Kn}:∀ {rs:List yC} {es:List Es},(?PX).map ?C=es.map ?C
 |[],es=>rfl
 |r::rs,es=>(Vu (rs:=rs)).trans Vr
theorem EsOk.mid (hM:32<=M)(hk:?FJ)(hb4:∀ r∈br,r.2.1.length<=4)(hij:i<j)(hj:j<=n)(n5:n<=5){bd:?A0}(h2:2<=bd.length)(hs':bd∈sfL L br){tot:Rat}(ht:OkD M (13*(n - ?P)+9) tot):∀ q,q<=nP bd.length i j->∀ {c:List Es×Kw},EsOk M n L br c.1->KwD M c.2->EsOk M n L br ((?Dy).foldl ?H5 c).1/\KwD M ((?Dy).foldl ?H5 c).2
 |0,_,c,h,w=>⟨h,w⟩
 |q+1,hq,c,h,w=>by
  obtain⟨h,w⟩:=EsOk.mid hM hk hb4 hij hj n5 h2 hs' ht q ?A h w;rw[qw,y7];generalize (?Dy).foldl ?H5 c=c at *;have hn:i+1+q+1<=j:=by unfold nP at hq;lia
  have tl:bd.tail.length=bd.length - 1:=qq;obtain⟨w1,_,w3,_⟩:=wn (hs:=hs) (row:=row) hM hk bd.tail ?tC (i+1+q) j c.2 ?A ?A w;refine⟨?_,w3⟩;refine EsOk.hand (EsOk.hand h (.inr (by rw[yH];lia)) ?_) (CD hb4 hs' h2) ?_
  .refine Km ?A ht w1 ?_;unfold lvE;show _<=13*(n - (i+1+q - i))+_;lia
  .refine Km ?A ht (AA ?A hk) ?_;unfold lvE;show _<=13*(n - (j - (i+1+q)))+_;lia
theorem EsOk.within (hM:32<=M)(hk:?FJ)(hb4:∀ r∈br,r.2.1.length<=4)(hij:i<j)(hj:j<=n)(n5:n<=5){tot:?wD}:∀ {bs:List (List Str)},(∀ x∈bs,2<=x.length/\x∈sfL L br/\OkD M (13*(n - ?P)+9) (tot x))->∀ {c:List Es×Kw},EsOk M n L br c.1->KwD M c.2->EsOk M n L br (?JE).1/\KwD M (?JE).2
 |[],_,c,h,w=>⟨h,w⟩
 |x::bs,hb,c,h,w=>by
  obtain⟨h1,h2,h3⟩:=hb x (by simp);obtain⟨a1,a2⟩:=EsOk.mid (hs:=hs) (row:=row) hM hk hb4 hij hj n5 h1 h2 h3 _ ?AH h w;rw[Yz];exact EsOk.within hM hk hb4 hij hj n5 (fun y hy=>hb y ?FQ) a1 a2
theorem ag {bd:?A0}{tot:Rat}:∀ {qs:List Nat} {c:List Es×Kw},(qs.foldl ?H5 c).1.map ?C=c.1.map ?C
 |[],c=>rfl
 |q::qs,c=>(ag (qs:=qs)).trans (Vr.trans Vr)
theorem xL {tot:?wD}:∀ {bs:List (List Str)} {c:List Es×Kw},(?JE).1.map ?C=c.1.map ?C
 |[],c=>rfl
 |x::bs,c=>(xL (bs:=bs)).trans ag
end
structure PPar (M b:Nat)(hs row L:?A0)(br:?A4)(ch:?I)(kn:Kn):Prop where
 g:GPar M b hs row L br ch
 sub:∀ x∈L,x∈hs
 kn:KnD M kn
 b9:br.length<=12
section
variable {M b k i j:Nat}{L hs row:?A0}{br:?A4}{ch:?I}{kn:Kn}{a:EA}
structure EMid (M n k i j:Nat)(L:?A0)(br:?A4)(es:?AU)(kw:Kw):Prop where
 el:zo es (1+400*k+12)
 ok:EsOk M n L br es
 lg:(jC es ?D).length<=45
 sm:∀ x∈jC es ?D,2<=x.length/\x.length<=4/\x∈sfL L br/\OkD M (13*(n - ?P)+9) (ju (qY es ?D x))/\∀ q∈qY es ?D x,xO M (13*(n - ?P)+6) q
theorem EInv.half (g:?Nb)(h:?Nn)(hk:k<=20):EMid M row.length k i j L br ?wP a.2.1:=by
 have b9:=g.b9;have ll:=g.g.ll;have es:=EsOk.bodies (i:=i) (j:=j) g.g g.sub (h.kb' g.g hk (p:=?D)) h.es (rs:=br) (fun r hr=>hr) h.es;have el:zo (Ql L br (QI L ch a.1 ?D a.2.2) i j a.1) (1+400*k+12):=(U9 h.el).up ?A;obtain⟨l1,l2⟩:=pN (p:=?D) es;refine⟨el,es,?A,fun x hx=>?_⟩;have x2:=aY hx;have pr:∀ q∈qY (Ql L br (QI L ch a.1 ?D a.2.2) i j a.1) ?D x,xO M (13*(row.length - ?P)+6) q:=fun q hq=>by
  have:=es.pairs (p:=?D) (b:=x) q hq;unfold lvE at this;rw[yf (by lia)] at this;exact this
 refine⟨x2,?_,l2 x hx,AZ g.g.d (yU (VM el) (show 1+400*k+12<=32768 by lia)) pr,pr⟩;have:=l2 x hx;unfold sfL at this;rcases Yj.mp this with z|z
 .obtain⟨y,_,rfl⟩:=yn.mp z;simp
 .obtain⟨r,hr,z⟩:=Y1.mp z;have b4:=(g.g.br.body r hr).2.1;simp only[yG,Y8,or_false] at z;rcases z with z|z|z
  .rw[z];exact b4
  .rw[z,qq];lia
  .rw[z,qq,qq];lia
theorem EInv.step (g:?Nb)(h:?Nn)(hk:k<=20)(hij:i<j)(hj:?wC):EInv M row.length (k+1) L br (dG L hs row br ch kn a ?D):=by
 have m:=h.half (i:=i) (j:=j) g hk;have kb:=h.kb' g.g hk (p:=?D);have pl:=bx (i:=i) (j:=j) (v:=byE L ch a.1 ?D) (L:=L) (kn:=a.2.2);have ll:=g.g.ll;have lg:=m.lg;have rl:=g.g.rl;have b4:∀ r∈br,r.2.1.length<=4:=fun r hr=>(g.g.br.body r hr).2.1;have w0:WaOk M (1+400*k+12) (9000000+250000*k) (Ql L br (QI L ch a.1 ?D a.2.2) i j a.1) ?D (Ql L br (QI L ch a.1 ?D a.2.2) i j a.1,a.2.1):=⟨m.el,h.kw,h.kl,rfl⟩
 have w1:=w0.bodies (L:=L) (hs:=hs) (row:=row) g.g.d g.kn ?A (tot:=fun x=>?PS) (bs:=jC ?wP ?D) fun x hx=>⟨(?GX).1,(?GX).2.1⟩
 have e1:=EsOk.within (hs:=hs) (row:=row) g.g.d g.kn b4 hij hj rl (tot:=fun x=>?PS) (bs:=jC ?wP ?D) (fun x hx=>⟨(?GX).1,(?GX).2.2.1,(?GX).2.2.2.1⟩) (c:=(?wP,a.2.1)) m.ok h.kw;refine⟨w1.el.up ?A,e1.1,e1.2,yU w1.kl ?A,kb,?_,?_⟩
 .have:=h.kbl;show(QI L ch a.1 ?D a.2.2).1.length<=_;unfold QI;dsimp only at pl ⊢;lia
 .unfold dG ZU;dsimp only;rw[xL,Vu];exact h.sp
end
section
variable {M b k i j:Nat}{t:PG}
abbrev Eh (M b:Nat)(t:PG):Prop:=PPar M b t.s.hs t.s.row t.s.L t.s.br t.s.ch t.s.kn
abbrev eaT (t:PG):EA:=(?Af,?ER,t.kn)
theorem Er (h:?JA)(hij:i<j)(hj:j<=t.s.row.length):?D∈t.hs.map ?C:=by
 have:?D∈(t.hs.map erS).map ?C:=by rw[h.sp];exact uV hij hj
 rw[YB] at this;exact this
theorem GT (g:Eh M b t)(h:?JA)(hk:k<=20)(hij:i<j)(hj:j<=t.s.row.length):HdOk t i j:=by
 have ll:=g.g.ll;have kbl:t.kn.1.length<=9*k:=h.kbl;have rl:=g.g.rl;refine⟨Er h hij hj,g.g.nd,?A,fun x hx=>?_,fun x hx=>?_,?A⟩
 .exact wR g.g.d g.g.db g.g.bl (e:=lvE t.s.row.length ?D [x]) (by show 13*(t.s.row.length - ?P)+_<=100;simp;lia) (yU (VM h.el) ?A) h.es.pairs
 .exact wR g.g.d g.g.db g.g.bl (e:=13*(t.s.row.length - ?P)+4) ?A ?qA (h.prs g.g hk hx)
theorem GU {hs':?B0}(g:Eh M b t)(h:?JA)(hk:k<=20)(hij:i<j)(hj:j<=t.s.row.length)(he:hs'.map erS=Ql t.s.L t.s.br ?JX i j ?Af){kb:Kn}:WiOk {t with kn:=kb,hs:=hs'} i j (1+400*k+12) M b:=by
 have m:=h.half (i:=i) (j:=j) g hk;have kl:t.s.kw.length<=_:=h.kl;have rl:=g.g.rl;have e0:({t with kn:=kb,hs:=hs'}:PG).hs.map erS=Ql t.s.L t.s.br (QI t.s.L t.s.ch (t.hs.map erS) ?D t.kn) i j (t.hs.map erS):=he;refine⟨hij,hj,fun x y h1 h2 h3=>?_,⟨g.g.d,g.g.db,g.g.bl,g.g.rl,g.kn,h.kw⟩,by rw[e0];exact m.el,?_,?_,fun x hx=>?_⟩
 .have:(x,y)∈(hs'.map erS).map ?C:=by rw[he,Vu,h.sp];exact uV h2 ?A
  rw[YB] at this;exact this
 .rw[e0];have:=m.lg;show _+10*(jC (Ql t.s.L t.s.br (QI t.s.L t.s.ch (eaT t).1 ?D (eaT t).2.2) i j (eaT t).1) ?D).length<_;lia
 .rw[e0];have:=m.lg;show t.s.kw.length+6000*(jC (Ql t.s.L t.s.br (QI t.s.L t.s.ch (eaT t).1 ?D (eaT t).2.2) i j (eaT t).1) ?D).length<=_;lia
 .rw[e0] at hx ⊢;obtain⟨_,s2,_,_,s5⟩:=m.sm x hx;exact⟨s2,wR g.g.d g.g.db g.g.bl (e:=13*(t.s.row.length - ?P)+6) ?A (yU (VM m.el) ?A) s5⟩
end
def vj (rs:?A4)(st:Str)(row:?A0):Rat:=JA ?As st 0 row.length
abbrev Ct:=List ?qT
def ctD (c:?qT):D:=.tup [Yd c.1,.int (c.2:Int)]
def z9 (cs:Ct):?A7:=cs.map ctD
theorem W7 {cs:Ct}{i:Nat}{d:D}(h:(?BD)[i]?=some d):∃ c,cs[i]?=some c/\d=ctD c:=by
 unfold z9 at h;rw[yz] at h;obtain⟨c,hc,e⟩:=Yk.mp h;exact⟨c,hc,e.symm⟩
theorem uJ {cs:Ct}:(?BD).length=cs.length:=yd _
theorem Gp {c:?qT}:pln (ctD c)=true:=by
 unfold ctD;rw[pln,vM,vM,vM,xE];rfl
theorem CL {cs:Ct}:pln (.lst ?BD)=true:=by
 rw[lY];exact uI fun d hd=>by
  unfold z9 at hd;obtain⟨c,_,rfl⟩:=yn.mp hd;exact Gp
def Fk:?zM:=fun ds=>∃ (c:Int) (ws:List Str) (m:Nat),ds=[.int c,.lst ?Bi,.int (m:Int)]/\ws≠[]/\ws.length<=3/\1<=m/\m<=5
def Ef:?H:=fun ds d=>∀ (c:Int) (ws:List Str) (m:Nat),ds=[.int c,.lst ?Bi,.int (m:Int)]->∃ row:List Str,d=Yd row/\1<=row.length/\row.length<=m/\∀ x∈row,x∈ws
theorem FU {c:Int}{m:Nat}(h1:1<=row.length)(h2:row.length<=m)(h3:∀ x∈row,x∈ws):Ef [.int c,.lst ?Bi,.int (m:Int)] ?CH:=fun c' ws' m' e=>by
 simp only[List.cons.injEq,D.lst.injEq,D.int.injEq,and_true] at e;obtain⟨_,e1,e2⟩:=e;have e1:=xn e1;subst e1;have e2:m=m':=by lia
 subst e2;exact⟨row,rfl,h1,h2,h3⟩
def iH:?zM:=fun ds=>∃ (ns:List Int) (ws:List Str),ds=[.scr ns,.lst ?Bi]/\ws≠[]/\ws.length<=3
def EZ (cs:Ct):Prop:=cs.length<=2/\∀ c∈cs,1<=c.2/\c.2<=9/\1<=c.1.length/\c.1.length<=4
def pJ:?H:=fun _ d=>∃ cs:Ct,d=.lst ?BD/\EZ cs
theorem mj (x:Int):∃ n:Nat,1+x % 9=(n:Int)/\1<=n/\n<=9:=by
 have m:=zZ (a:=x) (show(0:Int)<9 by decide);exact⟨(1+x % 9).toNat,?A,?A,?A⟩
theorem EM {a b:?qT}:kin (ctD a) (ctD b)=true:=by
 unfold ctD;rw[kin,J1,eD];rfl
theorem mx:∀ {a b:Ct},J1 (z9 a) (z9 b)=true
 |[],[]=>by unfold z9;simp[J1]
 |[],_::_=>by unfold z9;simp[J1]
 |_::_,[]=>by unfold z9;simp[J1]
 |x::a,y::b=>by
  have:=mx (a:=a) (b:=b);unfold z9 at this ⊢;rw[yt,yt,J1,EM,this];rfl
theorem GK {c:?qT}:dep (ctD c)<=2:=by
 unfold ctD;rw[dep,Z2,Z2,Z2];have:=Wl (b:=c.1);have e:dep (D.int (c.2:Int))=0:=by rfl
 lia
theorem DT {cs:Ct}:dep (.lst ?BD)<=60:=by
 rw[dep];have:Z2 (z9 cs)<=2:=ux fun d hd=>by
  unfold z9 at hd;obtain⟨c,_,rfl⟩:=yn.mp hd;exact GK
 lia
theorem r6 {a b:Ct}:kin (.lst (z9 a)) (.lst (z9 b))=true:=by rw[kin];exact mx
def Gu (P:?A6)(w:?A5)(K:?A1)(Cs:Addr):Addr ⊕ GSt->Om
 |.inl a=>[(a,zi K Cs [] [])]
 |.inr t=>omG P w K Cs t
def kwG (rs:?A4)(row:?A0):Kw:=(ZP rs row (?AT).length).2
def gS (Cg:Addr)(st:Str)(rs:?A4)(row:?A0)(a b c:Addr)(kw:Kw):GSt:=⟨a,b,c,gD Cg st rs,row,?AJ,?Ao,?AA,?B1,?As,kw⟩
def Eu (Cg:Addr):Addr ⊕ GSt->List D->Prop:=fun t ds=>∃ (a:Addr) (st:Str) (rs:List yC) (row:List Str) (M b s:Nat),t=.inl a/\ds=[.raw ?AB,gD Cg st rs,Yd row]/\SumG rs row M b s
def Hq (Cg:Addr):Addr ⊕ GSt->List D->Addr ⊕ GSt->D->Prop:=fun _ ds t' d=>d=.non/\∀ (a:Addr) (st:Str) (rs:List yC) (row:List Str),ds=[.raw ?AB,gD Cg st rs,Yd row]->∃ b c,t'=.inr (gS Cg st rs row a b c ?Ga)
theorem md {Cg a a':Addr}{st st':Str}{rs rs':?A4}{row row':?A0}(h:[D.raw ?AB,gD Cg st rs,Yd row]=[D.raw (.ref a'),gD Cg st' rs',Yd row']):a'=a/\st'=st/\rs'=rs/\row'=row:=by
 simp only[List.cons.injEq,and_true] at h;obtain⟨e1,e2⟩:=Bm h.2.1;have e0:V.ref a=V.ref a':=D.raw.inj h.1;exact⟨(V.ref.inj e0).symm,e1.symm,e2.symm,(Kx h.2.2).symm⟩
def bj (L:?A0)(st:Str)(n:Nat):?AU:=j4 L ((Y7 n).map fun p=>(p,[])) 0 n [st] (1,1)
def UI (rs:?A4)(st:Str)(row:?A0)(k:Nat):EA:=((?AT).reverse.take k).foldl (dG ?AA ?AJ row ?Ao ?B1 ?As) (?OU,?Ga,?yL)
def FI (rs:?A4)(st:Str)(row:?A0):EA:=UI rs st row (?AT).length
structure PU where
 a:Addr
 kb:Addr
 hd:Addr
 sa:Addr
 sb:Addr
 sc:Addr
 st:Str
 rs:List yC
 row:List Str
 kw:Kw
 M:Nat
 b:Nat
 s:Nat
def bE (rs:?A4)(st:Str)(row:?A0):Kn:=(?MG).2.2
def pDU (t:PU):?A7:=[.raw (.ref t.sa),.lst ?Fb,.raw (.ref t.kb),.lst ((?GG).map Zg),.raw ?Gw]
def sU (Cg:Addr)(t:PU):GSt:=gS Cg t.st t.rs t.row t.sa t.sb t.sc t.kw
def omU (P:?A6)(w:?A5)(K:?A1)(Cp Cs Cg:Addr)(t:PU):Om:=(t.a,zi K Cp pF (pDU t))::(t.kb,?Pf)::omG P w K Cs (sU Cg t)
def IW (P:?A6)(w:?A5)(K:?A1)(Cp Cs Cg:Addr):Addr ⊕ PU->Om
 |.inl a=>[(a,zi K Cp [] [])]
 |.inr t=>omU P w K Cp Cs Cg t
structure ParOk (rs:?A4)(st:Str)(row:?A0)(M b s:Nat):Prop where
 s5:s<=100
 s:SumG rs row M b s
 l9:rs.length<=12
 r1:1<=row.length
 b1:∀ r∈rs,1<=r.2.1.length
 nb:row.length*b<=50000
 w0:vj rs st row≠0
structure PuOk (m:Nat)(t:PU):Prop where
 p:ParOk t.rs t.st t.row t.M t.b t.s
 d:KwD t.M t.kw
 e:KwE ?Fa t.row (TW t.rs t.row) t.kw
 l:t.kw.length<=12750000+m*220000
def Ft (Cg:Addr):Addr ⊕ PU->List D->Prop:=fun t ds=>∃ (a:Addr) (st:Str) (rs:List yC) (row:List Str) (M b s:Nat),t=.inl a/\ds=[.raw ?AB,gD Cg st rs,Yd row]/\ParOk rs st row M b s
def G7 (Cg:Addr):Addr ⊕ PU->List D->Addr ⊕ PU->D->Prop:=fun _ ds t' d=>d=.non/\∀ (a:Addr) (st:Str) (rs:List yC) (row:List Str),ds=[.raw ?AB,gD Cg st rs,Yd row]->∃ kb hd sa sb sc kw M b s,t'=.inr ?Mh/\PuOk 0 ?Mh
theorem AX {rs:?A4}:∀ x∈yQ rs,x∈yJ rs:=fun x hx=>(Zx.mp hx).1
theorem ParOk.par {rs:?A4}{st:Str}{row:?A0}{M b s:Nat}(o:?Bl):PPar M b ?AJ row ?AA ?Ao ?B1 ?As:=by
 refine⟨o.s.par,AX,(Vt o.s _ ?AH).1.d,?_⟩;have a:(zj rs).length<=_:=Yv _ _;have b:(zJ (yJ rs) (yQ rs) rs).length<=rs.length:=Yv _ _;have:=o.l9;lia
theorem oG {rs:?A4}{st:Str}{row:?A0}{M b s:Nat}(o:?Bl):EInv M row.length 0 ?AA ?Ao (?OU,?Ga,?yL):=by
 have ks:=Vt o.s _ ?AH;have l15:=ZZ o.s.par.rl;have d:=o.s.par.d;have e0:zo ((Y7 row.length).map fun p=>((p,[]):Es)) 0:=fun s hs=>by
  obtain⟨p,_,rfl⟩:=yn.mp hs;exact⟨yg _,fun x hx=>by cases hx⟩
 have o0:EsOk M row.length (yQ rs) (zj rs) ((Y7 row.length).map fun p=>((p,[]):Es)):=by
  refine⟨fun s hs=>?_,fun s hs x hx=>?_⟩
  .obtain⟨p,_,rfl⟩:=yn.mp hs;exact⟨Qa,fun x hx=>by cases hx⟩
  .obtain⟨p,_,rfl⟩:=yn.mp hs;cases hx
 refine⟨v6 e0,o0.hand ?By ?_,ks.2.1,yU ks.2.2 ?A,⟨rfl,fun p hp=>by cases hp⟩,YC _,?_⟩
 .exact Km ?A sW sW (YC _)
 .show(bj _ _ _).map _=_;unfold bj;rw[Vr,YB];exact List.map_id' _
theorem uw {rs:?A4}{st:Str}{row:?A0}{M b s:Nat}(o:?Bl):∀ k,k<=(?AT).length->EInv M row.length k ?AA ?Ao ?Kp
 |0,_=>oG o
 |k+1,hk=>by
  have l15:=ZZ o.s.par.rl;obtain⟨p,hp⟩:∃ p,(?AT).reverse[k]?=some p:=⟨_,yl (by rw[jG];lia)⟩
  have hm:=vK ?M5;unfold UI;rw[Yg hp,y7];exact(uw o k ?A).step o.par ?A hm.1 hm.2
section
variable {rs:?A4}{row:?A0}{M b s i j:Nat}{L hs:?A0}
theorem Ds (g:?BT):Agr row ?BU ?As 11:=fun h i j _ _ _=>rfl
theorem nK (g:?BT){bd:?A0}{kw:Kw}(hb:bd≠[])(hij:i<j)(hj:?wC)(hk:KwE ?AJ row ?BU kw):(?Nc).1=wP ?AJ row ?BU bd i j/\KwE ?AJ row ?BU (?Nc).2:=by
 have rl:=g.par.rl;exact AF (Ds g) bd i j kw hb hij hj ?A (fun x _=>.inr ?A) hk
theorem l7 (g:?BT){bd:?A0}{tot:Rat}(h2:2<=bd.length)(hj:?wC):∀ q,q<=nP bd.length i j->∀ {c:List Es×Kw},KwE ?AJ row ?BU c.2->KwE ?AJ row ?BU ((?Dy).foldl (kg L ?AJ row ?As bd tot i j) c).2
 |0,_,c,h=>h
 |q+1,hq,c,h=>by
  have h:=l7 g (tot:=tot) h2 hj q ?A h;rw[qw,y7];have tl:bd.tail.length=bd.length - 1:=qq;exact(nK g ?tC (by unfold nP at hq;lia) hj h).2
theorem Wp (g:?BT){tot:?wD}(hj:?wC):∀ {bs:List (List Str)},(∀ x∈bs,2<=x.length)->∀ {c:List Es×Kw},KwE ?AJ row ?BU c.2->KwE ?AJ row ?BU (bs.foldl (ZO L ?AJ row ?As i j tot) c).2
 |[],_,c,h=>h
 |x::bs,hb,c,h=>by
  rw[Yz];exact Wp g hj (fun y hy=>hb y ?FQ) (l7 g (hb x (by simp)) hj _ ?AH h)
end
theorem eK {rs:?A4}{st:Str}{row:?A0}{M b s:Nat}(g:?BT):∀ k,k<=(?AT).length->KwE ?AJ row ?BU (?Kp).2.1
 |0,_=>lZ g _ ?AH
 |k+1,hk=>by
  obtain⟨p,hp⟩:∃ p,(?AT).reverse[k]?=some p:=⟨_,yl (by rw[jG];lia)⟩
  have hm:=vK ?M5;unfold UI;rw[Yg hp,y7];exact Wp g hm.2 (fun x hx=>aY hx) (eK g k ?A)
theorem Dk {rs:?A4}{st:Str}{row:?A0}{M b s:Nat}(o:?Bl){a kb hd sa sb sc:Addr}:PuOk 0 ⟨a,kb,hd,sa,sb,sc,st,rs,row,(?MG).2.1,M,b,s⟩:=by
 have i:=uw o _ ?AH;have l15:=ZZ o.s.par.rl;exact⟨o,i.kw,eK o.s _ ?AH,yU i.kl ?A⟩
theorem pR {rs:?A4}{st:Str}{row:?A0}{k:Nat}{p:?J}(h:(?AT).reverse[k]?=some p):UI rs st row (k+1)=dG ?AA ?AJ row ?Ao ?B1 ?As ?Kp (p.1,p.2):=by
 unfold UI;rw[Yg h,y7];rfl
theorem sv {P:?A6}{w:?A5}{K:?A1}{hs:?B0}{p:?J}{b:Addr}:omH P w K (hs++[(p,b,[])])=omH P w K hs++[(b,Jz P w K b [])]:=by
 unfold omH;rw[Qk];rfl
theorem Ew {n k:Nat}(h5:n<=5){hs:?B0}{p:?J}(he:hs.map erS=((Y7 n).take k).map fun p=>((p,[]):Es))(hp:(Y7 n)[k]?=some p):atD (hs.map hsV) (kP p)=none:=by
 rw[K6];cases e:hs.find? ?zO with
 |none=>rfl
 |some s=>
  exfalso;have e1:s.1=p:=by simpa using Jk e
  have m:erS s∈hs.map erS:=yn.mpr ⟨s,Yx e,rfl⟩;rw[he] at m;obtain⟨q,hq,e2⟩:=yn.mp m;have e3:q=s.1:=congrArg Prod.fst e2;rw[e3,e1] at hq;obtain⟨i,hi⟩:=List.mem_iff_getElem?.mp hq;rw[List.getElem?_take] at hi;split at hi
  .rename_i hk;have hl:i<(Y7 n).length:=(?ED).1;have:=(List.getElem?_inj hl (Wd h5)).mp (hi.trans hp.symm);lia
  .cases hi
open Classical in
theorem DD {α:Type}{a b c d:α}{g h:List α}:(b::(a::c::d::g++h)).Perm (d::a::c::(b::(g++h))):=by
 rw[Qq];intro x;simp only[jR,Q0,YQ];lia
open Classical in
theorem B4 {α:Type}{a b c d:α}{g h:List α}:(a::c::d::g++(h++[b])).Perm (d::a::c::(b::(g++h))):=by
 rw[Qq];intro x;simp only[jR,Q0,YQ,List.count_nil];lia
open Classical in
theorem Dy {α:Type}{a c d:α}{g h:List α}:(a::c::d::g++h).Perm ((a::c::g)++(d::h)):=by
 rw[Qq];intro x;simp only[jR,Q0,YQ];lia
section
variable {rs:?A4}{row:?A0}{M b s:Nat}
theorem Hh (g:?BT):OkD M ?yW (TW rs row h i j):=by
 have d:=g.par.d;exact AY ?A (Vt g _ ?AH).1.d
theorem HW (g:?BT):OkD M ?yW (wT ?AJ row ?BU x i j):=by
 have d:=g.par.d;unfold wT;split
 .exact Hh g
 .split
  .exact OkD.mono ?A sW (YC _)
  .exact bU
theorem fX {D e:Nat}{f:?W}(hD:0<D):∀ {n:Nat},(∀ t,t<n->OkD D e (f t))->OkN D n e (qX n f)
 |0,_=>bU
 |n+1,h=>(fX hD fun t ht=>h t ?A).add hD (h n ?A)
theorem Hx (g:?BT):∀ {bd:List Str} {i j:Nat},bd≠[]->i<j->j<=row.length->OkD M ?yW (wP ?AJ row ?BU bd i j)
 |[],_,_,h,_,_=>absurd rfl h
 |[x],i,j,_,hij,hj=>by rw[rR hij];exact HW g
 |x::y::rest,i,j,_,hij,hj=>by
  have d:=g.par.d;have rl:=g.par.rl;have hD:0<M:=by lia
  rw[wP,Ud (n:=j - i - 1) ?A fun t h1 h2=>by
   rw[xr (b:=?zE) (by rw[yw];lia)];grind]
  refine OkD.mono hD (OkN.up hD (fX (e:=9*?P - 10) hD fun t ht=>?_) ?A) ?A;exact OkD.mono hD (OkD.mul hD (HW g (x:=x) (i:=i) (j:=i+1+t)) (Hx g (bd:=?zE) (i:=i+1+t) (j:=j) (by simp) ?A hj)) ?A
end
theorem io {L:Bool}{b:?A0}:jL L (Yd b)=true:=by
 unfold Yd;rw[jL];exact uh
def bB (rs:?A4)(st:Str)(row:?A0)(h:Str)(i j:Nat):Rat:=JA (bE rs st row) h i j
def Bw (rs:?A4)(st:Str)(row:?A0)(r:yC)(p:?J):?K:=(bB rs st row r.1 p.1 p.2,wP ?AJ row ?BU r.2.1 p.1 p.2)
def cb (rs:?A4)(st:Str)(row:?A0)(r:yC):Rat:=ju ((?AT).map (Bw rs st row r))
def KI (rs:?A4)(st:Str)(row:?A0)(r:yC):Rat:=r.2.2*cb rs st row r / vj rs st row
section
variable {rs:?A4}{st:Str}{row:?A0}{M b s i j:Nat}{r:yC}
theorem IV (o:?Bl){h:Str}:OkD M (13*(row.length - ?P)+5) (bB rs st row h i j):=(uw o _ ?AH).kb.get
theorem mh (o:?Bl)(hr:r∈rs):∀ p∈(Y7 row.length).map (Bw rs st row r),xO M (13*row.length) p:=fun p hp=>by
 obtain⟨q,hq,rfl⟩:=yn.mp hp;have hm:=vK hq;have rl:=o.s.par.rl;have d:=o.s.par.d;have b1:=o.b1 r hr;exact Km ?A (IV o) (Hx o.s (by intro z;rw[z] at b1;simp at b1) hm.1 hm.2) ?A
theorem sd (o:?Bl)(hr:r∈rs):K3 [.lst (((?AT).map (Bw rs st row r)).map Y4)] (sh ?Kl):=by
 have l:=ZZ o.s.par.rl;exact wR o.s.par.d o.s.par.db o.s.par.bl (by have:=o.s.par.rl;lia) ?qA (mh o hr)
theorem E5 (o:?Bl)(hr:r∈rs):OkD M (13*row.length+1) ?Kl:=by
 have l:=ZZ o.s.par.rl;have d:=o.s.par.d;exact OkN.up ?A (kU ?A fun p hp=>(mh o hr p hp).2.2) ?qA
theorem Bp {e:Nat}{q:Rat}(o:?Bl)(h:OkD M e q):0<=q/\Sz (2*e*b+1) q:=by
 have d:=o.s.par.d;exact⟨h.nn ?A,h.sz ?A o.s.par.db⟩
theorem Cz (o:?Bl):OkD M (9*row.length) ?MF:=by
 have d:=o.s.par.d;exact(Hh o.s (h:=st) (i:=0) (j:=?Gy)).mono ?A ?A
theorem nM (o:?Bl)(hr:r∈rs):∃ x y,(0<=cb rs st row r/\Sz x ?Kl)/\(0<vj rs st row/\Sz y ?MF)/\x+y<=46*(row.length*b)+2:=by
 have a:=Bp o (E5 o hr);have w:=Bp o (Cz o);have w0:=o.w0;have r1:=o.r1;refine⟨_,_,a,⟨by grind,w.2⟩,?_⟩;have e:2*(13*row.length+1)*b+1+(2*(9*row.length)*b+1)=44*(row.length*b)+2*b+2:=by grind
 have:1*b<=row.length*b:=YI b r1;lia
theorem rf (o:?Bl)(hr:r∈rs):0<=KI rs st row r/\Sz (46*(row.length*b)+102) (KI rs st row r):=by
 obtain⟨x,y,a,w,h⟩:=nM o hr;have q:=o.s.sz r hr;have s5:=o.s5;unfold KI;exact⟨uz (ZB q.1 a.1) w.1,(xq (K7 q.2 a.2) w.2 w.1).mono ?A⟩
end
def E4:PU->List D->Prop:=fun t ds=>∃ (j:Nat) (r:yC) (m:Nat),ds=[.raw ?BV,.int (j:Int)]/\t.rs[j]?=some r/\PuOk m t/\m<=12
def Hk:PU->List D->PU->D->Prop:=fun t ds t' d=>∀ (j:Nat) (r:yC),ds=[.raw ?BV,.int (j:Int)]->t.rs[j]?=some r->d=sh ?Lo/\∃ kw',t'={t with kw:=kw'}/\∀ m,PuOk m t->PuOk (m+1) {t with kw:=kw'}
theorem xH {P:?A6}{w:?A5}{K:?A1}{Cp Cs Cg:Addr}{t:PU}:uc false (omU P w K Cp Cs Cg t):=qW Vf (qW b7 UM)
open Classical in
theorem AC {α:Type}{q a b:α}{g:List α}:(q::a::b::g).Perm (g++[q,a,b]):=by
 rw[Qq];intro x;simp only[jR,Q0,List.count_nil];lia
theorem sY {K:?A1}{F:Hp}{d:D}{b:Addr}{l2:?A7}(h:Is K F d ?Be):∀ {l1:List D} {xs:List V},IsL K F (l1++.raw ?Be::l2) xs->IsL K F (l1++d::l2) xs
 |[],xs,i=>by
  simp only[Jl,IsL] at i ⊢;obtain⟨x,r,e,i1,i2⟩:=i;cases isR i1;exact⟨_,r,e,h,i2⟩
 |e::l1,xs,i=>by
  simp only[YQ,IsL] at i ⊢;obtain⟨x,r,e,i1,i2⟩:=i;exact⟨x,r,e,i1,sY h i2⟩
theorem Bq {P:?A6}{w:?A5}{K:?A1}{mg:?G}{base:Heap}{k:Nat}{Cs Cg:Addr}{x:Str}{ps:?A0}(ok:OkI P w K mg base CX0 k x Cs ps (spN K 3 (Gu P w K Cs) (Eu Cg) (Hq Cg))):OkI P w K mg base CX0 k x Cs ps (Gf K 3 Cs (fS Cg) (bH Cg)):=by
 obtain⟨f,fd,F,r⟩:=ok;refine⟨f,fd,F.imp fun vs H Q E h=>?_,r⟩;obtain⟨a,us,ds,F,dx,rfl,hl,fh,fa,ha,il,⟨st,rs,row,M,b,s,rfl,so⟩,q⟩:=h;refine⟨.inl a,.raw ?AB::[gD Cg st rs,Yd row],F,⟨a,st,rs,row,M,b,s,rfl,rfl,so⟩,rfl,fh,IsL.cons (ZD F) il,by simp[Gu],fun p hp=>?_,fun t' d hC v H' F' g1 g2 g3 g4 g5 g6 iv=>?_⟩
 .rw[yy.mp hp];exact⟨fa,_,ha,fun _ _=>⟨dx,[],rfl,rfl,?CR⟩⟩
 obtain⟨rfl,hC⟩:=hC;obtain⟨b',c,rfl⟩:=hC a st rs row rfl;rw[isN iv];obtain⟨_,fa',o1,h1,ho1⟩:=g6 (a,zi K Cs sF [gD Cg st rs,Yd row,.lst ?D8,.lst (yD ?Ao),chD ?AA ?B1,.raw (.ref b'),.raw (.ref c)]) yh;obtain⟨nb,fb,o2,h2,ho2⟩:=g6 (b',oDt K (knK ?As) (knV ?As)) ?BC;have ne:b'≠a:=fun z=>by
  have:=(Yi.mp g5).1;exact this (by rw[←z];exact yh)
 have nb:H b'=none:=nb.resolve_left fun z=>ne (yy.mp z);have w:Yh F' (upd F' b' o2):=fun u o e=>by rw[yR (fun z=>by rw[z,fb] at e;cases e)];exact e
 obtain⟨dx',xs,rfl,hz,il1⟩:=ho1 _ w;obtain⟨ys,rfl,hy,il2⟩:=ho2 _ w;refine q (sF,?K1) tL H' (upd F' b' (.dT ((knK ?As).zip ys))) dx' xs (g1.trans w) (fun u o e=>?_) (fun u o hu e=>g3 u o (fun z=>hu (yy.mp z)) e) (fun u hu=>?_) (by rw[yR ne.symm];exact fa') h1 hz ?_
 .by_cases z:u=b'
  .subst z;rw[yX] at e;rw[←e];exact h2
  .rw[yR z] at e;exact g2 _ _ e
 .by_cases z:u=b'
  .subst z;exact .inr nb
  .rw[yR z] at hu;rcases g4 u hu with y|y|y
   .exact .inl y
   .exact .inr y
   .exact absurd (by rw[yy.mp y];exact fa') hu
 .exact sY (l1:=[_,_,_,_,_]) (show Is K _ (.dt (knK ?As) (knV ?As)) (.ref b') by simp only[Is];exact⟨b',ys,rfl,?EK,hy,il2⟩) il1
section
variable (hs row:?A0)(T:?zP)
end
section
variable {hs row:?A0}{T U:?zP}
end
section
variable {hs ws:?A0}{rs:?A4}{w0 h:Str}
end
section
variable {hs xs:?A0}{x:Str}{i j m c:Nat}
end
section
variable (hs:?A0)(e:?zB)
end
section
variable {hs:?A0}{e:?zB}{rs:?A4}{u v:Str->Rat}
end
section
variable {hs row:?A0}{T:?zP}{kb:Kb}
end
section
variable {hs row:?A0}{T:?zP}{rs:?A4}{i j:Nat}
end
section
variable {hs row:?A0}{rs:?A4}{i j:Nat}
end
section
variable {rs:?A4}{row:?A0}
end
end L3
namespace HT
open PySem PySem.Spec PySem.Calls PyProof.Rows L2
section
variable {prog:?A6}{w:?A5}{A:?Ad}{E:?M}{s:?AI}
end
end HT
namespace L3
open PySem PySem.Spec PySem.Calls PyProof.Rows L2
section
variable {X:Cx}{Γ:Ga}{a:Expr}{lo hi:?F0}{i j:?BJ}{ds:?A7}{pos p2:Pos}
end
section
variable {rs:?A4}{hs row:?A0}
theorem al:∀ {cs hs:List Str},cs.Nodup->(∀ x∈cs,x∈hs)->cs.length<=hs.length
 |[],hs,_,_=>YC _
 |c::cs,hs,n,h=>by
  rw[Yi] at n;have hc:=h c (by simp);have ih:=al (cs:=cs) (hs:=hs.erase c) n.2 fun x hx=>(List.mem_erase_of_ne (fun (e:x=c)=>n.1 (by rw[←e];exact hx))).mpr (h x (by simp[hx]));rw[List.length_erase_of_mem hc] at ih;have:=List.length_pos_of_mem hc;rw[yw];lia
end
section
variable {rs:?A4}{row:?A0}{M b s:Nat}
end
section
theorem kr:∀ {l:List yC} {t:Rat},l.foldl (Jy h) t=t+Qi h l
 |[],t=>by unfold Qi;simp[Rat.add_zero]
 |r::l,t=>by
  unfold Qi;rw[Yz,Yz,kr,kr (t:=Jy h 0 r)];unfold Jy;split <;> grind
end
theorem BL {r:yC}:pln (jS r)=true:=by
 unfold jS;rw[pln,vM,vM,vM,xE,Fy];rfl
theorem K5 {rs:?A4}:pln ?Bo=true:=by
 rw[lY];exact uI fun d hd=>by
  unfold yD at hd;obtain⟨r,_,rfl⟩:=yn.mp hd;exact BL
theorem tW {r:yC}:dep (jS r)<=2:=by
 unfold jS;rw[dep];refine Qv (ux fun d hd=>?_);simp only[yG,Y8,or_false] at hd;rcases hd with rfl|rfl|rfl
 .exact YC _
 .exact Wl
 .exact CW
theorem WV {rs:?A4}:dep ?Bo<=60:=by
 rw[dep];refine Qv (ux fun d hd=>?_);unfold yD at hd;obtain⟨r,_,rfl⟩:=yn.mp hd;have:=tW (r:=r);lia
theorem W4 {rs:?A4}:kin ?Bo ?Bo=true:=WD K5
theorem Uj:Qi h (a++b)=Qi h a+Qi h b:=by
 show(a++b).foldl (Jy h) 0=_;rw[y7,kr];rfl
theorem XW {rs:?A4}(n:Nat):(?jT).Perm rs:=by
 have:=Yu (l₁:=rs.drop n) (l₂:=?GW)
 rwa [Q8] at this
theorem VG {n:Nat}:x∈yJ ?jT ↔ x∈yJ rs:=by
 rw[Jf,Jf];exact((XW n).map _).mem_iff
theorem Ku:(?AJ).Nodup:=xf Qa
theorem nz:(yJ ?jT).length<=(?AJ).length:=al Ku fun x hx=>VG.mp hx
theorem Dn {hs ws:?A0}{rs:?A4}(g:?GE)(n:Nat):GOk (yJ ?jT) ws ?jT:=by
 have p:=XW (rs:=rs) n;have hh:∀ x,x∈yJ ?jT ↔ x∈hs:=fun x=>by rw[VG,g.fst]
 have nd:=Ye.mp g.nd;refine⟨Ye.mpr ⟨Ku,nd.2.1,fun x hx y hy=>nd.2.2 x ((hh x).mp hx) y hy⟩,fun x hx=>?_,fun z=>?_,g.w0,?_,g.wl,fun z=>?_,by rw[p.length_eq];exact g.rl,rfl,fun h hx=>?_,fun r hr=>?_,fun r hr=>g.pos r (p.mem_iff.mp hr),(p.map _).nodup_iff.mpr g.prs⟩
 .refine g.sym x ?_;rcases Yj.mp hx with z|z
  .exact yq _ ((hh x).mp z)
  .exact ?EQ
 .obtain⟨y,hy⟩:=List.exists_mem_of_ne_nil hs g.h0;have:=(hh y).mpr hy;rw[z] at this;cases this
 .have:=nz (rs:=rs) (n:=n);rw[g.fst] at this;exact yU this g.hl
 .have:=p.length_eq;rw[z] at this;exact g.r0 (Qy.mp this.symm)
 .rw[Uj,Rat.add_comm,←Uj,Q8];exact g.one h ((hh h).mp hx)
 .have b:=g.body r (p.mem_iff.mp hr);refine⟨b.1,b.2.1,fun x hx=>?_⟩;rcases Yj.mp (b.2.2 x hx) with z|z
  .exact yq _ ((hh x).mpr z)
  .exact ?EQ
theorem Bl {α:Type}{xs:?Ay}{f:α->D}{k:Nat}{d:D}(h:(uv (xs.map f))[k]?=some d):∃ x,xs[k]?=some x/\d=.tup [.int (k:Int),f x]:=by
 unfold uv at h;rw[List.getElem?_mapIdx,yz] at h;cases e:xs[k]? with
 |none=>rw[e] at h;cases h
 |some x=>rw[e] at h;exact⟨x,rfl,(Option.some.inj h).symm⟩
theorem rg {ds:?A7}:(uv ds).length=ds.length:=J7
theorem HJ {X:Cx}{Γ:Ga}{a b:Expr}{op:CmpOp}{k k':Bool}(h:C3 X Γ a op b k')(e:k'=k):?Hh:=e▸h
theorem aH {rs:?A4}{f:yC->D}{i:Nat}{d:D}(h:(?OG)[i]?=some d):∃ r,rs[i]?=some r/\d=.tup [jS r,f r]:=by
 unfold ka at h;rw[yz] at h;obtain⟨p,h1,h2⟩:=Yk.mp h;obtain⟨a,b⟩:=qG.mp h1;obtain⟨r,hr,er⟩:=QC a;rw[yz,hr] at b;exact⟨r,hr,by rw[←h2,er,←Option.some.inj b]⟩
theorem XZ {rs:?A4}{f:yC->D}:(?OG).length=rs.length:=by
 unfold ka;rw[yd,Y3,YF,yd];lia
structure GW (st:Str)(rs:?A4):Prop where
 l1:1<=rs.length
 l2:rs.length<=30
 ok:∀ r∈rs,cv r
 nd:(rs.map fun r=>?Y).Nodup
 st:st∈yJ rs
 one:∀ h∈yJ rs,Qi h rs=1
 sz:∀ r∈rs,Sz 60000000 r.2.2
 sm:∀ h j,Sz 60000000 (Qi h ?DS)
def CI:?H:=fun ds d=>∃ (hs:List Str) (rs:List yC),ds=[.lst ?BQ,.lst ?AO]/\d=.non/\(∀ h∈hs,Qi h rs=1)/\(∀ r∈rs,0<=r.2.2/\Sz 60000000 r.2.2)/\∀ h j,Sz 60000000 (Qi h ?DS)
def Bo:?wW:=fun ds r=>∃ (st:Str) (rs:List yC),ds=[.str st,.lst ?AO]/\r=(gF,gDs st rs)/\GW st rs
theorem BD {h:Str}{rs:?A4}(h0:∀ r∈rs,0<=r.2.2):0<=Qi h rs:=by
 induction rs with
 |nil=>exact qr
 |cons r rs ih=>
  rw[Qd];refine ky ?_ (ih fun x hx=>h0 x ?Ap);split
  .exact h0 r (by simp)
  .exact qr
theorem dX {h:Str}{n:Nat}{rs:?A4}(h0:∀ r∈rs,0<=r.2.2/\Sz n r.2.2):Sz (1+rs.length*(n+1)) (Qi h rs):=by
 induction rs with
 |nil=>exact ?L4
 |cons r rs ih=>
  have ih:=ih fun x hx=>h0 x ?Ap;rw[Qd,yw];split
  .exact(bR (h0 r (by simp)).2 ih).mono ?wB
  .rw[Qx];exact ih.mono ?wB
theorem GV.gw {st:Str}{rs:?A4}(g:GV st rs):GW st rs:=by
 have l2:=g.l2;refine⟨g.l1,g.l2,g.ok,g.nd,g.st,g.one,fun r hr=>(g.sz r hr).mono ?B,fun h j=>?_⟩;refine(dX (n:=1000) fun r hr=>?_).mono (by rw[yH];lia);have hr:=YO hr;exact⟨YH (g.ok r hr).2.2.2.2,g.sz r hr⟩
def qo (rs:?A4)(st:Str)(cs:Ct)(r:yC):Rat:=cs.foldl (fun q c=>q+(c.2:Rat)*KI rs st c.1 r) 0
structure CtP (rs:?A4)(st:Str)(cs:Ct)(U:Nat):Prop where
 l:cs.length<=2
 c:∀ c∈cs,1<=c.2/\c.2<=9/\∃ M b s,ParOk rs st c.1 M b s/\46*(c.1.length*b)+102<=U
 u:U<=1000000
theorem gX {rs:?A4}{st:Str}{cs:Ct}{r:yC}{i:Nat}{c:?qT}(h:cs[i]?=some c):qo rs st (cs.take (i+1)) r=qo rs st (cs.take i) r+(c.2:Rat)*KI rs st c.1 r:=by
 unfold qo;rw[Yg h,y7];rfl
theorem cy {n:Nat}:(0:Rat)<=(n:Rat):=by exact_mod_cast YC n
theorem a9 {n:Nat}(h:n<=9):Sz 4 (n:Rat):=by
 refine⟨?_,?_⟩
 .show((n:Rat)).num.natAbs<_;rw[Rat.num_natCast,qU];lia
 .show((n:Rat)).den<_;rw[Rat.den_natCast];decide
theorem cG {rs:?A4}{st:Str}{cs:Ct}{U:Nat}(g:?Ks){c:?qT}(hc:c∈cs){r:yC}(hr:r∈rs):0<=KI rs st c.1 r/\Sz U (KI rs st c.1 r):=by
 obtain⟨_,_,M,b,s,o,hu⟩:=g.c c hc;exact⟨(rf o hr).1,(rf o hr).2.mono hu⟩
theorem cW {rs:?A4}{st:Str}{cs:Ct}{U:Nat}(g:?Ks){r:yC}(hr:r∈rs):∀ i,i<=cs.length->0<=qo rs st (cs.take i) r/\Sz (1+i*(U+5)) ?H0
 |0,_=>⟨qr,?L4⟩
 |i+1,hi=>by
  have a:=cW g hr i ?A;have hc:cs[i]?=some cs[i]:=yl ?A;have hm:=yx hc;have u:=cG g hm hr;rw[gX hc];exact⟨ky a.1 (ZB cy u.1),(bR a.2 (K7 (a9 (g.c _ hm).2.1) u.2)).mono ?wB⟩
theorem lO {rs:?A4}{st:Str}{cs:Ct}{U:Nat}(g:?Ks){r:yC}(hr:r∈rs):0<=qo rs st cs r/\Sz 2000011 ?Du:=by
 have a:=cW g hr cs.length ?AH;rw[yI] at a;have l:=g.l;have u:=g.u;refine⟨a.1,a.2.mono ?_⟩;have:cs.length*(U+5)<=2*1000005:=qt l ?A;lia
def Gi (Cg:Addr):?H:=fun ds d=>∃ (st:Str) (rs:List yC) (cs:Ct) (U:Nat),ds=[gD Cg st rs,.lst ?BD]/\d=.lst (rs.map fun r=>sh ?Du)/\CtP rs st cs U/\rs.length<=12
def js (f:?zB)(rs:?A4)(h:Str):Rat:=wK (fun r=>if r.1=h then f r else 0) rs
def sbh (f:?zB)(rs:?A4):En:=rs.foldl (fun a r=>(pK a.1 r.1,pA a.1 a.2 r.1 ((vA a.1 a.2 r.1).getD 0+f r))) ?yL
structure SbOk (f:?zB)(rs:?A4)(a:En):Prop where
 eq:a.1.length=a.2.length
 ks:∀ h,h∈a.1 ↔ h∈rs.map ?C
 vl:∀ h,(vA a.1 a.2 h).getD 0=js f rs h
 ll:a.1.length<=rs.length
theorem EG {κ:Type}[DecidableEq κ]{k x:κ}{ks:?Ak}:x∈pK ks k ↔ x=k∨x∈ks:=by
 refine⟨i8,fun h=>?_⟩;unfold pK;split
 .rename_i q;rcases h with z|z
  .rw[z];exact q
  .exact z
 .rcases h with z|z
  .rw[z];simp
  .exact yq _ z
theorem A4 {f:?zB}{rs:?A4}:∀ n,n<=rs.length->SbOk f ?GW ?Fs
 |0,_=>⟨rfl,fun h=>by simp[sbh],fun h=>rfl,yg _⟩
 |n+1,hn=>by
  have hr:rs[n]?=some rs[n]:=yl ?A;have c:=A4 (f:=f) (rs:=rs) n ?A;have e:sbh f (rs.take (n+1))=(pK (sbh f (rs.take n)).1 rs[n].1,pA (?Fs).1 (?Fs).2 rs[n].1 ((vA (?Fs).1 (?Fs).2 rs[n].1).getD 0+f rs[n])):=by
   unfold sbh;rw[Yg hr,y7];rfl
  rw[e];generalize sbh f ?GW=a at *;rw[Yg hr];refine⟨kj c.eq,fun h=>?_,fun h=>?_,?_⟩
  .rw[EG,c.ks,yk,Yj];simp;exact or_comm
  .unfold js;rw[Ki,h6 c.eq];have:=c.vl h;unfold js at this;by_cases eh:h=rs[n].1
   .rw[yf eh,yf eh.symm,←this,←eh];rfl
   .rw[ye eh,ye fun z=>eh z.symm,this,Rat.add_zero]
  .have:=xI (k:=rs[n].1) (ks:=a.1);have:=c.ll;rw[yK];show(pK a.1 rs[n].1).length<=(?GW).length+1;lia
theorem VD {f:?zB}{n:Nat}{h:Str}:∀ {rs:List yC},(∀ r∈rs,0<=f r/\Sz n (f r))->0<=js f rs h/\Sz (1+rs.length*(n+1)) (js f rs h)
 |[],_=>⟨qr,?L4⟩
 |r::rs,h0=>by
  have ih:=VD (h:=h) (rs:=rs) fun x hx=>h0 x ?Ap;have hr:=h0 r (by simp);unfold js at ih ⊢;rw[wK,yw];split
  .exact⟨ky hr.1 ih.1,(bR hr.2 ih.2).mono ?wB⟩
  .rw[Qx];exact⟨ih.1,ih.2.mono ?wB⟩
def Hg:?H:=fun ds d=>∃ (rs:List yC) (f:yC->Rat),ds=[.lst ?AO,.lst (rs.map fun r=>sh (f r))]/\d=enD (sbh f rs)/\rs.length<=12/\∀ r∈rs,0<=f r/\Sz 2000011 (f r)
def Jd (f:?zB)(S:Str->Rat)(r:yC):?A4:=if S r.1=0 then [r] else if f r=0 then [] else [(r.1,r.2.1,f r / S r.1)]
theorem uy {f:?zB}{S:Str->Rat}:∀ {rs:List yC},(?HQ).length<=rs.length
 |[]=>yg _
 |r::rs=>by
  have:=uy (f:=f) (S:=S) (rs:=rs);rw[Qt,yK,yw];have:(Jd f S r).length<=1:=by
   unfold Jd;split
   .exact yg _
   .split
    .exact YC _
    .exact yg _
  lia
def wI (f:?zB)(rs:?A4):?A4:=rs.flatMap (Jd f (js f rs))
def Ae (Cg:Addr):?H:=fun ds d=>∃ (st:Str) (rs:List yC) (cs:Ct) (U:Nat),ds=[gD Cg st rs,.lst ?BD]/\d=gD Cg st (wI ?BH rs)/\CtP rs st cs U/\rs.length<=12/\GW st (wI ?BH rs)
end L3
namespace Law
open PySem L2 L3
section
variable {P:?A6}{w:?A5}{K:?A1}{mg:?G}{base:Heap}{C_Grammar C_Sums C_Parts:Addr}
variable (P w K mg base) in
abbrev AH:Prop:=OkF P w K mg base CX0 2 "is_letter" ["sign"] (spP K 1 rL)
theorem aO  (d:Yt K mg "is_letter" zK ["sign"])  : AH P w K mg base:=by
 refine YS d bp rfl fun f cdv A outer s H E hr ds r hC B hB=>?_;obtain⟨c,rfl,rfl⟩:=hC;refine qH (Hc (dS X3 ?A9 X3) fun _=>(aL (dS X3 ?A9 X3))) ?_;show D.bl ((leS "a" ?zK&&leS ?zK "z")||(leS "A" ?zK&&leS ?zK "Z"))=D.bl (KR c);rw[D3 (n:=97) (by decide +kernel),DY (n:=122) ?E,D3 (n:=65) ?E,DY (n:=90) ?E];rfl
variable (P w K mg base) in
abbrev Al:Prop:=OkF P w K mg base CX0 3 "is_symbol" ["text"] (spP K 1 DS)
theorem ba (z:?AM)(jo:?tK)(d:Yt K mg "is_symbol" JC ["text"])(gb:AH P w K mg base):Al P w K mg base:=by
 refine YS d aT rfl fun f cdv A outer s H E hr ds r hC B hB=>?_;obtain⟨x,rfl,rfl,h1,h2⟩:=hC;have hl:x.length=x.cps.size:=rfl;refine qH (XR (o9 yB (Gb z.len rfl ?A9 ?_) (Y5 jo rfl)) fun _=>(aL (Ec rfl z.all rfl (PF3.p (Jb (SX:=yo JC) (XN:=["text"]) (N:=["sign"]) (nt:=1) (caps:=[]) (pre:=(fun i=>((x.cps.toList.take i).map KR).map D.bl)) ?DI (FL ?A9 ?_) ?_ ?_ ?_))))) ?_
 .rw[hl,sizeLine_eq];lia
 .exact h2
 .intro i hi;rw[yd,yd,yH,sizeLine_eq];simp only[Array.length_toList];lia
 .rfl
 .intro c i d hd;obtain⟨n,hn,rfl⟩:=ox hd;refine⟨_,(Yl (i:=0) (show List.Nodup (α:=Str) ["sign"] by decide +kernel) rfl ?A3),?CE,.inl ⟨.bl (KR n),zU,(Yp (d:=.bl (KR n)) gb ?A2 rfl (yc ?A9 yr) ?_),?_⟩⟩
  .exact⟨n,rfl,rfl⟩
  .dsimp only;rw[Yg hn,yk,yk];rfl
 show D.bl _=D.bl _;congr 1;rw[pI,←Array.length_toList,yI,List.all_map,YG,xg];simp only[Yw,Y0,jZ,V4];rw[hl];constructor
 .intro h;exact⟨?A,?A,fun c hc=>h.2 c hc⟩
 .intro h;exact⟨⟨?A,?A⟩,fun c hc=>h.2.2 c hc⟩
variable (P w K mg base) in
abbrev Aq:Prop:=OkF P w K mg base CX0 4 "check_symbol" ["text"] (spP K 1 sI)
theorem wE (z:?AM)(jo:?tK)(d:Yt K mg "check_symbol" jX ["text"])(fY:Al P w K mg base):Aq P w K mg base:=by
 refine YS d wy rfl fun f cdv A outer s H E hr ds r hC B hB=>?_;obtain⟨x,rfl,rfl,hx⟩:=hC;have e:bI x=true:=xg.mpr hx;refine zO (eA (vF (Yp (d:=.bl (bI x)) fY ?A2 rfl (yc ?A9 yr) ?_))) ?_ ?_
 .exact⟨x,rfl,rfl,by have:=hx.2.1;lia,o6 hx⟩
 .intro hk;rw[e] at hk;exact ?MD
 .intro _;exact y9 (y9 rfl)
variable (P w K mg base) in
abbrev A6:Prop:=OkF P w K mg base CX0 5 "check_rule" ["rule"] (spP K 1 Gr)
theorem Xi (z:?AM)(y6:?V)(JT:Qc K mg "MOST_SYMBOLS" (.int 4))(d:Yt K mg "check_rule" J3 ["rule"])(Kf:Aq P w K mg base):A6 P w K mg base:=by
 refine YS d KW rfl fun f cdv A outer s H E hr ds r hC B hB=>?_;obtain⟨r,rfl,rfl,h1,h2,h3,h4,h5⟩:=hC;refine cJ (Yp (d:=.non) Kf ?A2 rfl (yc (Yr (pq 0 rfl) yB rfl) yr) ?_) ?_
 .exact⟨r.1,rfl,rfl,h1⟩
 refine zO (PW3.t (eg (qI (oU (zy z.len rfl (Yr (pq 0 rfl) yB rfl)) yB)) fun _=>(bA (qI (fz (zy z.len rfl (Yr (pq 0 rfl) yB rfl)) (Y5 JT rfl)))))) ?_ ?_
 .intro hk;rw[show(r.2.1.map D.str).length=r.2.1.length from yd _] at hk;simp at hk;lia
 .intro _;refine ?B2;refine jF PassesOwn.never rfl (Em (Yr (pq 0 rfl) yB rfl)) (fun i Γ Ω=>∃ x,Γ=[some (jS r),x]/\Ω=[]) ⟨_,rfl,rfl⟩ ?_ ?_
  .rintro i d Γ Ω hd ⟨x,rfl,rfl⟩;obtain⟨y,hy,rfl⟩:=je hd;refine⟨_,(Yl (i:=1) KW.nd rfl (.inl rfl)),?_⟩;refine cJ (Yp (d:=.non) Kf ?A2 rfl (yc (pq 1 rfl) yr) ?_) ?_
   .exact⟨y,rfl,rfl,h4 y (yx hy)⟩
   exact y9 ⟨_,rfl,rfl⟩
  .rintro Γ Ω ⟨x,rfl,rfl⟩;refine zO (qI (Xq hr.units (Yr (pq 0 rfl) yB rfl) (Y5 y6 rfl) Ja Jg)) ?_ ?_
   .intro hk;rw[QL] at hk;rw[of_decide_eq_true hk] at h5;exact absurd h5 ?B
   .intro _;exact y9 (y9 rfl)
variable (P w K mg base) in
abbrev Ak:Prop:=OkF P w K mg base CX0 6 "check_rules" ["rules"] (spP K 1 Ch)
theorem xS (z:?AM)(Zc:Qc K mg "MOST_RULES" (.int 30))(d:Yt K mg "check_rules" Jq ["rules"])(dh:A6 P w K mg base):Ak P w K mg base:=by
 refine YS d vh rfl fun f cdv A outer s H E hr ds r hC B hB=>?_;obtain⟨rs,rfl,rfl,h1,h2,h3,h4⟩:=hC;refine zO (PW3.t (eg (qI (oU (Zp z.len rfl (pq 0 rfl)) yB)) fun _=>(bA (qI (fz (Zp z.len rfl (pq 0 rfl)) (Y5 Zc rfl)))))) ?_ ?_
 .intro hk;rw[YF] at hk;simp at hk;lia
 .intro _;refine ?B2;refine QQ (i:=1) vh.nd rfl (.inl rfl) (bX fun l=>?_);refine jF PassesOwn.never rfl (QH (pq 0 rfl)) (fun i Γ Ω=>∃ x,Γ=[some (.lst ?AO),some (.raw (.ref l)),x]/\Ω=[(l,Jz P w K l (xW ?B8))]) ⟨_,rfl,rfl⟩ ?_ ?_
  .rintro i d Γ Ω hd ⟨x,rfl,rfl⟩;obtain⟨r,hr',rfl⟩:=QC hd;have hn:=ue (f:=fun r:yC=>?Y) h4 hr';refine⟨_,(Yl (i:=2) vh.nd rfl (.inl rfl)),?_⟩;refine cJ (Yp (d:=.non) dh ?A2 rfl (yc (pq 2 rfl) yr) ?_) ?_
   .exact⟨r,rfl,rfl,h3 r (yx hr')⟩
   refine U4 (EO hr.units (Yn (QO (yc (Yr (pq 2 rfl) yB rfl) (yc (Yr (pq 2 rfl) yB rfl) yr))) ⟨Xy r,nJ r,Yn (pq 1 rfl) ⟨l,_,rfl,yy.mpr rfl,fun hk=>?_,fun _=>?_⟩⟩))
   .rw[fR hn] at hk;cases hk
   .refine ?B2;refine gf hr.units (Yn FO (Yn (pq 1 rfl) ⟨l,rfl,Yn (QO (yc (Yr (pq 2 rfl) yB rfl) (yc (Yr (pq 2 rfl) yB rfl) yr))) ⟨Xy r,_,[],nJ r,?AV,?_,?_⟩⟩))
    .unfold xW;rw[yd,yH,sizeLine_eq];lia
    .refine y9 ⟨_,rfl,?_⟩;rw[t8 hn,Yg hr'];rfl
  .rintro Γ Ω ⟨x,rfl,rfl⟩;exact y9 rfl
variable (P w K mg base) in
abbrev BO:Prop:=OkF P w K mg base CX0 2 "check_start" ["start", "heads"] (spP K 2 Dh)
theorem WQ  (d:Yt K mg "check_start" Jo ["start", "heads"])  : BO P w K mg base:=by
 refine YS d WK rfl fun f cdv A outer s H E hr ds r hC B hB=>?_;obtain⟨x,hs,rfl,rfl,hx⟩:=hC;refine zO (qI (uA hr.units ?A9 ?AQ ?A3 ?_)) ?_ ?_
 .exact Vj
 .intro hk;rw[vJ,yL hx] at hk;cases hk
 .intro _;exact y9 (y9 rfl)
variable (P w K mg base) in
abbrev tu:Prop:=OkF P w K mg base CX0 34 "check_sums" ["heads", "rules"] (spP K 2 CI)
theorem Xu (y6:?V)(Zd:?wJ)(d:Yt K mg "check_sums" JY ["heads", "rules"])(Z4:?F1):tu P w K mg base:=by
 refine YS d zk rfl fun f cdv A outer s H E hr ds r hC B hB=>?_;obtain⟨hs,rs,rfl,rfl,h2,h3,h4⟩:=hC;have big':big=67108864:=rfl;refine jF PassesOwn.never rfl (QH (pq 0 rfl)) (fun i Γ Ω=>∃ x2 x3 x4,Γ=[some (.lst ?BQ),some (.lst ?AO),x2,x3,x4]/\Ω=[]) ⟨_,_,_,rfl,rfl⟩ ?_ ?_
 .rintro i d Γ Ω hd ⟨x2,x3,x4,rfl,rfl⟩;obtain⟨h,hh,rfl⟩:=je hd;refine⟨_,(Yl (i:=2) zk.nd rfl (.inl rfl)),?_⟩;refine Y2 (i:=3) zk.nd rfl (.inl rfl) (Y5 y6 rfl) ?_;refine jF PassesOwn.never rfl (QH (pq 1 rfl)) (fun j Γ Ω=>∃ x4,Γ=[some (.lst ?BQ),some (.lst ?AO),some (.str h),some (sh (Qi h ?DS)),x4]/\Ω=[]) ⟨_,rfl,rfl⟩ ?_ ?_
  .rintro j d Γ Ω hd ⟨x4,rfl,rfl⟩;obtain⟨r,hr',rfl⟩:=QC hd;have hq:=h3 r (yx hr');have nn:=BD (h:=h) (rs:=?DS) fun r hr=>(h3 r (YO hr)).1;have s4:=h4 h j;have ef:Qi h (rs.take (j+1))=Jy h (Qi h (rs.take j)) r:=by rw[Yg hr'];unfold Qi;rw[y7];rfl
   generalize Qi h ?DS=t at *;refine⟨_,(Yl (i:=4) zk.nd rfl (.inl rfl)),?_⟩;refine zO (qI (XV (Yr (pq 4 rfl) yB rfl) (pq 2 rfl))) ?_ ?_
   .intro hk;have hk:=of_decide_eq_true hk;refine Y2 (i:=3) zk.nd rfl (.inl rfl) (Yp (d:=sh (t+r.2.2)) Z4 ?A2 rfl (yc (pq 3 rfl) (yc (Yr (pq 4 rfl) yB rfl) yr)) ?_) ?_
    .exact⟨t,r.2.2,60000000,60000000,rfl,rfl,nn,hq.1,s4,hq.2,?A,?A,?Bx⟩
    exact y9 (y9 ⟨_,by rw[ef,show Jy h t r=t+r.2.2 from yf hk];rfl,rfl⟩)
   .intro hk;have hk:=of_decide_eq_false hk;exact y9 (y9 ⟨_,by rw[ef,show Jy h t r=t from ye hk];rfl,rfl⟩)
  .rintro Γ Ω ⟨x4,rfl,rfl⟩;rw[YF,yI,h2 h (yx hh)];refine zO (qI (Xn hr.units (pq 3 rfl) (Y5 Zd rfl) Ja Jg)) ?_ ?_
   .intro hk;rw[QL] at hk;simp at hk
   .intro _;exact y9 (y9 ⟨_,_,_,rfl,rfl⟩)
 .rintro Γ Ω ⟨x2,x3,x4,rfl,rfl⟩;exact y9 rfl
variable (P w K mg base) in
abbrev Bn:Prop:=OkF P w K mg base CX0 2 "heads_of" ["rules"] (spP K 1 DK)
theorem dR  (d:Yt K mg "heads_of" Zn ["rules"])  : Bn P w K mg base:=by
 refine YS d kz rfl fun f cdv A outer s H E hr ds r hC B hB=>?_;obtain⟨rs,rfl,rfl,h1⟩:=hC;refine kQ (i:=1) kz.nd rfl ?A3 ?C1 fun l=>?_;refine jF PassesOwn.never rfl (QH ?A9) (fun i Γ Ω=>∃ (acc:List Str) (x:Option D),acc=(?B8).foldl Qo []/\acc.length<=i/\Γ=[some ?Bo,some ?Ah,x]/\Ω=[(l,YW K (yT acc))]) ⟨[],_,rfl,yg _,rfl,rfl⟩ ?_ ?_
 .rintro i d Γ Ω hd ⟨acc,x,ea,la,rfl,rfl⟩;obtain⟨r,hr',rfl⟩:=QC hd;have hi:i<rs.length:=(?Da).1;have en:(rs.take (i+1)).foldl Qo []=Qo acc r:=by rw[Yg hr',y7,←ea];rfl
  refine⟨_,(Yl (i:=2) kz.nd rfl ?A3),?_⟩;refine U4 (nI (Γ':=[some ?Bo,some (.lst (yT acc)),some (jS r)]) (qI (uA hr.units ?I0 ?AQ ?A3 ?_)) (zl (i:=1) qV rfl (yy.mpr rfl) Ko) ⟨fun hk=>?_,fun hk=>?_⟩)
  .exact Vj
  .rw[vJ] at hk;have hn:r.1∉acc:=by simpa using hk
   refine JF (i:=1) rfl ?A3 rfl ?I0 (by rw[YK,sizeLine_eq];lia) ?_;refine y9 (y9 ⟨acc++[r.1],_,?_,?_,rfl,?_⟩)
   .rw[en];exact(ye hn).symm
   .rw[yK];exact Qv la
   .unfold yT;rw[yk];rfl
  .rw[vJ] at hk;have hn:r.1∈acc:=by simpa using hk
   exact y9 (y9 ⟨acc,_,by rw[en];exact(yf hn).symm,?A,rfl,rfl⟩)
 .rintro Γ Ω ⟨acc,x,ea,la,rfl,rfl⟩;rw[YF,yI] at ea;refine j6 (i:=1) rfl ?_;refine qH ?AQ ?_;rw[ea];rfl
variable (P w K mg base) in
abbrev gT:Prop:=OkF P w K mg base CX0 2 "is_live_body" ["body", "heads", "live"] (spP K 3 lf)
theorem wF (z:?AM)(d:Yt K mg "is_live_body" jj ["body", "heads", "live"])  : ?Ky:=by
 refine YS d ww rfl fun f cdv A outer s H E hr ds r hC B hB=>?_;obtain⟨b,hs,L,rfl,rfl,h1⟩:=hC;refine qH (Ec rfl z.all rfl (PF3.p (Jb (SX:=yo jj) (XN:=["body", "heads", "live"]) (N:=["symbol", "heads", "live"]) (nt:=1) (caps:=[1,2]) (pre:=(fun i=>((b.take i).map fun x=>decide (x∈L)||!decide (x∈hs)).map D.bl)) ?DI (Em ?A9) ?_ ?_ ?_))) ?_
 .intro i hi;rw[yd,yd,yH,sizeLine_eq];lia
 .rfl
 .intro c i d hd;obtain⟨x,hx,rfl⟩:=je hd;refine⟨_,(Yl (i:=0) (show List.Nodup (α:=Str) ["symbol", "heads", "live"] by decide +kernel) rfl ?A3),?CE,.inl ⟨.bl (decide (x∈L)||!decide (x∈hs)),zU,(zC (Hc (kC (FK hr.units ?A9 ?Cz ?A3 ?_)) fun _=>(aL (kC (uA hr.units ?A9 ?EF ?A3 ?_)))) ?_),?_⟩⟩
  .exact Vj
  .exact Vj
  .rw[vJ,vJ]
  .dsimp only;rw[Yg hx,yk,yk];rfl
 .rw[show(b.map D.str).length=b.length from yd _,yI];show D.bl ((b.map fun x=>decide (x∈L)||!decide (x∈hs)).all id)=D.bl (jN hs L b);rw[List.all_map];rfl
variable (P w K mg base) in
abbrev Ai:Prop:=OkF P w K mg base CX0 3 "has_live_body" ["head", "rules", "heads", "live"] (spP K 4 pD)
theorem Uq (z:?AM)(d:Yt K mg "has_live_body" QY ["head", "rules", "heads", "live"])(Za:?Ky):Ai P w K mg base:=by
 refine YS d Uo rfl fun f cdv A outer s H E hr ds r hC B hB=>?_;obtain⟨h,rs,hs,L,rfl,rfl,h1,h2⟩:=hC;refine qH (Hd rfl z.any rfl (PF3.p (Jb (SX:=yo QY) (XN:=["head", "rules", "heads", "live"]) (N:=["rule", "head", "heads", "live"]) (nt:=1) (caps:=[0,2,3]) (pre:=(fun i=>((?B8).map fun r=>?tM).map D.bl)) ?DI (QH ?AQ) ?_ ?_ ?_))) ?_
 .intro i hi;rw[yd,yd,yH,sizeLine_eq];lia
 .rfl
 .intro c i d hd;obtain⟨r,hr',rfl⟩:=QC hd;refine⟨_,(Yl (i:=0) (show List.Nodup (α:=Str) ["rule", "head", "heads", "live"] by decide +kernel) rfl ?A3),?CE,.inl ⟨.bl ?tM,zU,(XR (kC (XV ?CL ?EF)) fun _=>(aL (Yp (d:=.bl (jN hs L r.2.1)) Za ?A2 rfl (yc ?CL (yc ?Cz (yc (pqc 3 rfl) yr))) ?_))),?_⟩⟩
  .exact⟨r.2.1,hs,L,rfl,rfl,h2 r (yx hr')⟩
  .dsimp only;rw[Yg hr',yk,yk];rfl
 .rw[YF,yI];show D.bl ((rs.map fun r=>?tM).any id)=D.bl (zt rs hs L h);rw[List.any_map];rfl
variable (P w K mg base) in
abbrev rN:Prop:=OkF P w K mg base CX0 4 "live_of" ["heads", "rules"] (spP K 2 AD)
theorem gc (z:?AM)(d:Yt K mg "live_of" Zj ["heads", "rules"])(V7:Ai P w K mg base):rN P w K mg base:=by
 refine YS d Zk rfl fun f cdv A outer s H E hr ds r hC B hB=>?_;obtain⟨hs,rs,rfl,rfl,h1,h2,h3,h4⟩:=hC;refine Y2 (i:=2) Zk.nd rfl ?By (eR yr) ?_;refine Y2 (i:=3) Zk.nd rfl ?A3 FO ?_;refine aN PassesOwn.never (fun Γ _=>∃ (L:List Str) (b:Bool) (x:Option D),Γ=[some ?Br,some ?Bo,some (.lst (yT L)),some (.bl b),x]/\((b=true/\Wq hs rs L)∨(b=false/\L=zL hs rs))) (fun Γ _=>match Γ with|[_,_,some ?BP,some (.bl b),_]=>if b then hs.length+1 - ds.length else 0|_=>0) ⟨[],true,none,rfl,.inl ⟨rfl,oh⟩⟩ ?_;rintro Γ Ω ⟨L,b,x,rfl,hb⟩;refine⟨_,(vF ?B9),fun hk=>?_,fun hk=>?_⟩
 .obtain⟨rfl,st⟩:b=true/\Wq hs rs L:=hb.resolve_right fun h=>by rw[h.1] at hk;cases hk
  refine bS (i:=4) (SX:=yo Zj) (XN:=["heads", "rules", "live", "grown", "found"]) (N:=["head", "heads", "rules", "live"]) (nt:=1) (caps:=[0,1,2]) (pre:=(fun i=>yT ((?In).filter ?E0)))  ?DI Zk.nd rfl ?A3  (QH ?FW) ?_ ?_ ?_ ?_
  .intro i hi;rw[YK,sizeLine_eq];have:=Yv ?E0 ?In;rw[yH] at this;lia
  .rfl
  .intro c i d hd;obtain⟨h,hh,rfl⟩:=je hd;cases q:zt rs hs L h with
   |true=>
    refine⟨_,(Yl (i:=0) (show List.Nodup (α:=Str) ["head", "heads", "rules", "live"] by decide +kernel) rfl ?A3),?CE,.inl ⟨.str h,(K8 (vF (Yp (d:=?EG) V7 ?A2 rfl ?MQ ?_))),?A9,?_⟩⟩
    .exact⟨h,rs,hs,L,rfl,by rw[q],h1,h4⟩
    .show yT ((hs.take (i+1)).filter ?E0)=yT ((?In).filter ?E0)++[D.str h]
     rw[Yg hh,qu,YD q];unfold yT;rw[yk];rfl
   |false=>
    refine⟨_,(Yl (i:=0) (show List.Nodup (α:=Str) ["head", "heads", "rules", "live"] by decide +kernel) rfl ?A3),?CE,.inr ⟨(K8 (vF (Yp (d:=?FL) V7 ?A2 rfl ?MQ ?_))),?_⟩⟩
    .exact⟨h,rs,hs,L,rfl,by rw[q],h1,h4⟩
    .show yT ((hs.take (i+1)).filter ?E0)=yT ((?In).filter ?E0);rw[Yg hh,qu,YE (by simp[q])];simp
  rw[YK,yI];refine Y2 (i:=3) Zk.nd rfl ?A3 (kC (fz (Zp z.len rfl ?Ab) (Zp z.len rfl ?Cz))) ?_;refine Y2 (i:=2) Zk.nd rfl ?By ?Ab ?_;rw[YK,YK];show W3 _ B [] [some ?Br,some ?Bo,some (.lst (yT ?Cr)),some (.bl (decide (((L.length:Nat):Int)<((?Cr).length:Nat)))),some (.lst (yT ?Cr))] Ω _;have le:=dF st;have lh:(zF hs rs L).length<=hs.length:=Yv _ _;by_cases g:L.length<(?Cr).length
  .rw[yL (by lia)];refine y9 ⟨⟨_,true,_,rfl,.inl ⟨rfl,gu st⟩⟩,?_⟩;show(if true=true then hs.length+1 - (yT ?Cr).length else 0)<if true=true then hs.length+1 - (yT L).length else 0
   rw[yf rfl,yf rfl,YK,YK];lia
  .rw[yA (by lia)];refine y9 ⟨⟨_,?AN,_,rfl,.inr ⟨rfl,pW st ?A h3⟩⟩,?_⟩;show(if false=true then hs.length+1 - (yT ?Cr).length else 0)<if true=true then hs.length+1 - (yT L).length else 0
   rw[ye yV,yf rfl,YK];lia
 .obtain⟨_,rfl⟩:b=false/\L=zL hs rs:=hb.resolve_left fun h=>by rw[h.1] at hk;cases hk
  refine qH ?Cz ?_;rfl
end
section
variable {P:?A6}{w:?A5}{K:?A1}{mg:?G}{base:Heap}{C_Grammar C_Sums C_Parts:Addr}
variable (P w K mg base C_Grammar) in
abbrev iD:Prop:=OkI P w K mg base CX0 36 "Grammar" C_Grammar ["self", "start", "rules"] (spI K 3 C_Grammar Bo)
theorem gL (z:?AM)(yP:?BL)(d:vG K mg "Grammar" C_Grammar "Grammar.__init__" QA ["self", "start", "rules"])(XC:Ak P w K mg base)(lG:Bn P w K mg base)(Xz:BO P w K mg base)(dy:tu P w K mg base)(p7:rN P w K mg base):?JY:=by
 refine CO d KG rfl fun f cdv A outer s H E hr a ds r hC B hB=>?_;obtain⟨st,rs,rfl,rfl,gv⟩:=hC;have l2:=gv.l2;have fl:=iK (rs:=rs);refine cJ (Yp (d:=.non) XC ?A2 rfl ?FY ?_) ?_
 .exact⟨rs,rfl,rfl,gv.l1,gv.l2,gv.ok,gv.nd⟩
 refine zh (a:=a) ?A9 yP.c yP.n_first (Yn ?AQ ⟨[],[],[],?AV,by simp,by decide,?_⟩);refine zh (a:=a) ?A9 yP.c yP.n_kept_rules (Yn (PF3.p (vD z.list rfl ?AS ?A3)) ⟨_,_,[],?AV,?B,?B,?_⟩);refine zh (a:=a) ?A9 yP.c yP.n_kept_heads (Yn (Yp (d:=.lst ?D8) lG ?A2 rfl ?FY ⟨rs,rfl,rfl,gv.l2⟩) ⟨_,_,[],?AV,?B,?B,?_⟩);refine Zt (kL (L:=true) (d:=.non) (Γ':=?xZ) (Yp Xz ?A2 rfl (yc ?AQ (yc ?JB yr)) ⟨st,?AJ,rfl,rfl,gv.st⟩) ?JF (qW Vf Ua) rfl ?_);refine Zt (kL (L:=true) (d:=.non) (Γ':=?xZ) (Yp dy ?A2 rfl ?Oy ⟨?AJ,rs,rfl,rfl,gv.one,(fun r hr'=>⟨YH (gv.ok r hr').2.2.2.2,gv.sz r hr'⟩),gv.sm⟩) ?JF (qW Vf Ua) rfl ?_);refine zh (a:=a) ?A9 yP.c yP.n_kept_live (kL (L:=true) (d:=.lst (yT ?Eo)) (Γ':=?xZ) (Yp p7 ?A2 rfl ?Oy ⟨?AJ,rs,rfl,rfl,gv.l2,?A,fun r hr'=>Jf.mpr (yn.mpr ⟨r,hr',rfl⟩),fun r hr'=>(gv.ok r hr').2.2.1⟩) ?JF (qW Vf Ua) fy ⟨_,_,[],?AV,?B,?B,?_⟩);exact y9 rfl
variable (P w K mg base C_Grammar) in
abbrev Wv:Prop:=OkM P w K mg base CX0 2 C_Grammar "start" ["self"] (spP K 1 (tT C_Grammar))
theorem UB (yP:?BL)(d:YZ K C_Grammar "start" "Grammar.start" jz ["self"])  : ?GS:=by
 refine uB d Uy rfl fun f cdv A outer s H E hr ds r hC B hB=>?_;obtain⟨st,rs,rfl,rfl⟩:=hC;refine qH (zd ?A9 yP.c yP.n_first rfl) ?_;rfl
variable (P w K mg base C_Grammar) in
abbrev UG:Prop:=OkM P w K mg base CX0 2 C_Grammar "rules" ["self"] (spF K 1 (AQ C_Grammar))
theorem UQ (z:?AM)(yP:?BL)(d:YZ K C_Grammar "rules" "Grammar.rules" jx ["self"])  : ?F8:=by
 refine xF d Uc rfl fun f cdv A outer s H E hr ds gs hC B hB=>?_;obtain⟨st,rs,rfl,rfl⟩:=hC;exact vp (ut (vD z.list rfl (zd ?A9 yP.c yP.n_kept_rules rfl) ?A3) fun p=>?KS)
variable (P w K mg base C_Grammar) in
abbrev aV:Prop:=OkM P w K mg base CX0 2 C_Grammar "heads" ["self"] (spF K 1 (AU C_Grammar))
theorem UK (z:?AM)(yP:?BL)(d:YZ K C_Grammar "heads" "Grammar.heads" jy ["self"])  : ?IB:=by
 refine xF d UE rfl fun f cdv A outer s H E hr ds gs hC B hB=>?_;obtain⟨st,rs,rfl,rfl⟩:=hC;exact vp (ut (vD z.list rfl ?JB ?A3) fun p=>?KS)
variable (P w K mg base C_Grammar) in
abbrev iJ:Prop:=OkM P w K mg base CX0 2 C_Grammar "live" ["self"] (spF K 1 (Cq C_Grammar))
theorem wO (z:?AM)(yP:?BL)(d:YZ K C_Grammar "live" "Grammar.live" jV ["self"])  : ?JO:=by
 refine xF d wL rfl fun f cdv A outer s H E hr ds gs hC B hB=>?_;obtain⟨st,rs,rfl,rfl⟩:=hC;exact vp (ut (vD z.list rfl (zd ?A9 yP.c yP.n_kept_live rfl) ?A3) fun p=>?KS)
end
section
variable {P:?A6}{w:?A5}{K:?A1}{mg:?G}{base:Heap}{C_Grammar C_Sums C_Parts:Addr}
variable (P w K mg base) in
abbrev bc:Prop:=OkF P w K mg base CX0 34 "sum_of_products" ["pairs"] (spP K 1 K3)
theorem CP (ht:?qQ)(y6:?V)(d:Yt K mg "sum_of_products" Qr ["pairs"])(jh:?Hy)(KD:?Hd):?Iz:=by
 refine YS d qm rfl fun f cdv A outer s H E hr ds r hC B hB=>?_;obtain⟨ps,Q,s',a,rfl,rfl,hp,hQ,hQ2,hb⟩:=hC;have py:Pyl (cx0 P w K mg base ["pairs", "top", "bottom", "one", "other", "below", "divisor"] "sum_of_products" Qr f cdv A outer s H E):=(xR ht rfl rfl hr ?B).nox;refine Y2 (i:=1) qm.nd rfl ?A3 yB ?_;refine Y2 (i:=2) qm.nd rfl ?A3 yB ?_;refine jF PassesOwn.never rfl (QH ?A9) (fun i Γ _=>∃ (t b:Int) (x3 x4 x5 x6:Option D),SopQ Q (ps.take i) t b/\Γ=[some (.lst ?Ie),some (.int t),some (.int b),x3,x4,x5,x6]) ⟨0,1,_,_,_,_,⟨Int.le_refl _,?B,Int.one_dvd _,by simp[ju]⟩,rfl⟩ ?_ ?_
 .rintro i d Γ Ω hd ⟨t,b,x3,x4,x5,x6,so,rfl⟩;obtain⟨p,hp',rfl⟩:=Vq hd;have hi:i<ps.length:=(yi.mp hp').1;have hq:=hp p (yx hp');have he:0<(p.1.den:Int)*(p.2.den:Int):=Qm ?I6 ?I6;have g0:0<My.G b ((p.1.den:Int)*(p.2.den:Int)):=My.G_pos he;have eb:((p.1.den:Int)*(p.2.den:Int)).natAbs<2 ^ (s'+s'):=QZ (j9 hq.1.2) (j9 hq.2.1.2);have c1:=Wx (a:=b) (g:=?GR) (yN so.b0) g0;have c2:=Wx (a:=?yA) (g:=?GR) (yN he) g0;have tb:=so.tb (s:=s') (fun p hp'=>hp p (YO hp')) hQ hQ2;rw[yH] at tb;have b1:=Uz c1 (so.bb hQ hQ2);have b2:=Uz c2 eb;have bn:(p.1.num*p.2.num).natAbs<2 ^ (s'+s'):=QZ hq.1.2.1 hq.2.1.2.1;refine⟨_,(vo rfl (qh (Yl (i:=3) qm.nd rfl ?A3) (qh (Yl (i:=4) qm.nd rfl ?A3) zD))),?_⟩;refine zO (PW3.t (dc (qI (Xn hr.units ?B9 ?Fc Ja Jg)) fun _=>(wU (qI (Xn hr.units ?Ab ?Fc Ja Jg))))) ?_ ?_
  .intro hk;refine Y2 (i:=5) qm.nd rfl ?A3 ?O5 ?_
   .exact JZ (j9 hq.1.2) (j9 hq.2.1.2) ?A
   refine Y2 (i:=6) qm.nd rfl ?A3 (Yp (d:=.int ?GR) jh ?A2 rfl (yc ?AS (yc ?C0 yr)) ?_) ?_
   .exact⟨_,_,rfl,rfl,yN so.b0,yN he⟩
   refine Y2 (i:=1) qm.nd rfl ?A3 (zf (JM ?AQ (Jw py ?C0 ?BO ?_) ?_) (JM ?O5 (Jw py ?AS ?BO ?_) ?_)) ?_
   .exact g0
   .exact JZ tb b2 ?A
   .exact JZ hq.1.2.1 hq.2.1.2.1 ?A
   .exact g0
   .exact JZ bn b1 ?A
   refine Y2 (i:=2) qm.nd rfl ?A3 (JM (Jw py ?AS ?BO ?_) ?C0 ?_) ?_
   .exact g0
   .exact JZ b1 eb ?A
   refine y9 (y9 ⟨_,_,_,_,_,_,?_,rfl⟩);rw[Yg hp'];exact so.more hq
  .intro hk;refine y9 (y9 ⟨t,b,_,_,_,_,?_,rfl⟩);rw[Yg hp'];refine so.skip ?_;rw[QL,QL] at hk;by_cases z:p.1=0
   .exact ?BY
   .refine .inr ?_;simpa [z] using hk
 .rintro Γ Ω ⟨t,b,x3,x4,x5,x6,so,rfl⟩;rw[yd,yI] at so;refine qH (Yp (d:=sh (ju ps)) KD ?A2 rfl ?MI ?_) ?_
  .exact⟨t,b,rfl,by rw[so.e],so.t0,so.b0⟩
  rfl
variable (P w K mg base) in
abbrev AS:Prop:=OkF P w K mg base CX0 2 "is_step" ["rule", "heads"] (spP K 2 Cu)
theorem iM (z:?AM)(d:Yt K mg "is_step" Z9 ["rule", "heads"])  : AS P w K mg base:=by
 refine YS d lB rfl fun f cdv A outer s H E hr ds r hC B hB=>?_;obtain⟨r,L,rfl,rfl⟩:=hC;by_cases h1:r.2.1.length=1
 .obtain⟨x,hx⟩:∃ x,r.2.1=[x]:=QK.mp h1;have hx':(r.2.1.map D.str)=[D.str x]:=by rw[hx];rfl
  refine qH (XR (kC (KQ (zy z.len rfl (Yr (pq 0 rfl) yB rfl)) yB)) fun _=>(aL (kC (FK hr.units (Yr (d:=.str x) (Yr (pq 0 rfl) yB rfl) yB ?_) (pq 1 rfl) (.inl rfl) ?_)))) ?_
  .show atI (r.2.1.map D.str) 0=_;rw[hx'];rfl
  .exact Vj
  show D.bl _=D.bl _;rw[vJ];unfold jt;rw[hx];simp
 .have e:decide (((r.2.1.map D.str).length:Int)=1)=false:=yA ?qA;refine qH (zC (d:=.bl (jt L r)) (XR (k':=?AN) (kC (KQ (zy z.len rfl (Yr (pq 0 rfl) yB rfl)) yB)) fun hk=>by rw[e] at hk;cases hk) ?_) rfl;show D.bl (_&&false)=D.bl (jt L r);rw[Bool.and_false];unfold jt;split
  .rename_i x hx;rw[hx] at h1;exact absurd rfl h1
  .rfl
variable (P w K mg base C_Grammar) in
abbrev rh:Prop:=OkF P w K mg base CX0 3 "live_rules" ["grammar"] (spP K 1 (DE C_Grammar))
theorem Xl (yP:?BL)(d:Yt K mg "live_rules" Je ["grammar"])(Jj:?IB)(vB:?JO)(qP:?F8)(Za:?Ky):?OZ:=by
 refine YS d vS rfl fun f cdv A outer s H E hr ds r hC B hB=>?_;obtain⟨st,rs,rfl,rfl,h1,h2⟩:=hC;refine Y2 (i:=1) vS.nd rfl ?By (PF3.p (JR (ds:=?D8) Jj yP.c ?A2 ?A9 Zl ?_)) ?_
 .exact ?FP
 refine Y2 (i:=2) vS.nd rfl ?By (PF3.p (JR (ds:=yT ?Eo) vB yP.c ?A2 ?A9 V1 ?_)) ?_
 .exact ?FP
 refine qH (PF3.p (Jb (SX:=yo Je) (XN:=["grammar", "heads", "live"]) (N:=["rule", "heads", "live"]) (nt:=1) (caps:=[1,2]) (pre:=(fun i=>yD ((?B8).filter fun r=>?jK))) ?DI (QH (PF3.p (JR (ds:=?AO) qP yP.c ?A2 ?A9 jg ?_))) ?_ ?_ ?_)) ?_
 .exact ?FP
 .intro i hi;rw[YF,sizeLine_eq];have:=Yv (fun r:yC=>?jK) ?B8;rw[yH] at this;lia
 .rfl
 .intro c i d hd;obtain⟨r,hr',rfl⟩:=QC hd;cases q:jN (yJ rs) (zL (yJ rs) rs) r.2.1 with
  |true=>
   refine⟨_,(Yl (i:=0) (show List.Nodup (α:=Str) ["rule", "heads", "live"] by decide +kernel) rfl ?A3),?CE,.inl ⟨jS r,(K8 (vF (Yp (d:=?EG) Za ?A2 rfl ?Mk ?_))),?A9,?_⟩⟩
   .exact⟨r.2.1,_,_,rfl,by rw[q],h2 r (yx hr')⟩
   .show yD ((rs.take (i+1)).filter fun r=>?jK)=_;rw[Yg hr',qu,YD (p:=fun r:yC=>?jK) q];unfold yD;rw[yk];rfl
  |false=>
   refine⟨_,(Yl (i:=0) (show List.Nodup (α:=Str) ["rule", "heads", "live"] by decide +kernel) rfl ?A3),?CE,.inr ⟨(K8 (vF (Yp (d:=?FL) Za ?A2 rfl ?Mk ?_))),?_⟩⟩
   .exact⟨r.2.1,_,_,rfl,by rw[q],h2 r (yx hr')⟩
   .show yD ((rs.take (i+1)).filter fun r=>?jK)=_;rw[Yg hr',qu,YE (p:=fun r:yC=>?jK) (fun z=>by rw[q] at z;cases z)];simp
 rw[YF,yI];rfl
variable (P w K mg base) in
abbrev gC:Prop:=OkF P w K mg base CX0 2 "stretches" ["row"] (spP K 1 Gm)
theorem cF (z:?AM)(d:Yt K mg "stretches" JO ["row"])  : ?ME:=by
 refine YS d VE rfl fun f cdv A outer s H E hr ds r hC B hB=>?_;obtain⟨row,rfl,rfl,h1⟩:=hC;refine kQ (i:=1) VE.nd rfl (.inl rfl) ?C1 fun l=>?_;refine jF PassesOwn.never rfl (xC (n:=?Gy) (lo:=1) z.range rfl yB (zf (zy z.len rfl (pq 0 rfl)) yB) ?_ ?_ ?_) (fun i Γ Ω=>∃ x,Γ=[some ?CH,some (.raw (.ref l)),x]/\Ω=[(l,YW K ((aE row.length i).map Zg))]) ?_ ?_ ?_
 .rfl
 .rw[yd];lia
 .rw[yd];lia
 .exact⟨_,rfl,rfl⟩
 .rintro i d Γ Ω hd ⟨x,rfl,rfl⟩;obtain⟨hi,rfl⟩:=zu hd;refine⟨_,(Yl (i:=2) VE.nd rfl (.inr rfl)),?_⟩;refine rA (i:=1) rfl (.inl rfl) rfl (Jb (SX:=yo JO) (XN:=["row", "found", "length"]) (N:=["i", "length"]) (nt:=1) (caps:=[2]) (pre:=(fun k=>((?Es).map fun j=>(j,j+i+1)).map Zg)) ⟨rfl,?E,?E,?E,rfl,?E⟩ (zS (n:=row.length - i) z.range rfl (zf (m7 (zy z.len rfl (pq 0 rfl)) (pqc 2 rfl)) yB) ?_ ?_) ?_ ?_ ?_) ?_ ?_
  .rw[yd];lia
  .lia
  .intro k hk;rw[yd,yd,List.length_range,sizeLine_eq];rw[jm] at hk;lia
  .rfl
  .intro c k d hd;obtain⟨hk,rfl⟩:=zu hd;refine⟨_,(Yl (i:=0) (show List.Nodup (α:=Str) ["i", "length"] by decide +kernel) rfl (.inl rfl)),(Sub.set rfl),.inl ⟨Zg (k,k+i+1),zU,(zC (QO (yc (pq 0 rfl) (yc (zf (pq 0 rfl) (pqc 1 rfl)) yr))) ?_),?_⟩⟩
   .have e:((0+k:Nat):Int)+((1+i:Nat):Int)=((k+i+1:Nat):Int):=by lia
    show D.tup [.int ((0+k:Nat):Int),.int (((0+k:Nat):Int)+((1+i:Nat):Int))]=D.tup [.int (k:Int),.int ((k+i+1:Nat):Int)];rw[e,qp]
   .show((List.range (k+1)).map fun j=>(j,j+i+1)).map Zg=_;rw[qw,yk,yk];rfl
  .rw[jm,yd,yd,yd,List.length_range,sizeLine_eq];have:=o7 (n:=?Gy) (i:=i);have:row.length*i<=10*10:=qt h1 ?A;lia
  .refine y9 ⟨_,rfl,?_⟩;rw[xQ,yk,jm];rfl
 .rintro Γ Ω ⟨x,rfl,rfl⟩;rw[jm];refine j6 (i:=1) rfl ?_;refine qH (pq 1 rfl) ?_;rfl
variable (P w K mg base) in
abbrev AR:Prop:=OkF P w K mg base CX0 38 "chains_of" ["heads", "steps"] (spP K 2 rZ)
theorem bf (z:?AM)(y6:?V)(Zd:?wJ)(d:Yt K mg "chains_of" j8 ["heads", "steps"])(XD:BQ P w K mg base):AR P w K mg base:=by
 refine YS d jb rfl fun f cdv A outer s H E hr ds r hC B hB=>?_;obtain⟨L,ss,s',rfl,rfl,nd,hL,hss,hb1,hkn,hsz,hs1,hsk,hpv⟩:=hC;refine QQ (i:=2) jb.nd rfl (.inr rfl) (hV fun l=>?_);refine jF PassesOwn.never rfl (QH (pq 1 rfl)) (fun i Γ Ω=>∃ x3,Γ=[some (.lst (yT L)),some (.lst (yD ss)),some (.raw (.ref l)),x3,none,none,none,none,none]/\Ω=[(l,oDt K (((ss.take i).map fun r=>?U).map kW) (((ss.take i).map ?qD).map sh))]) ⟨_,rfl,rfl⟩ ?_ ?_
 .rintro i d Γ Ω hd ⟨x3,rfl,rfl⟩;obtain⟨r,hr',rfl⟩:=QC hd;obtain⟨y,hy⟩:=hb1 r (yx hr');have hn:=ue (f:=fun r:yC=>?U) hkn hr';have ey:b0 r=y:=by unfold b0;rw[hy];rfl
  have hi:i<ss.length:=(?Da).1;refine⟨_,(Yl (i:=3) jb.nd rfl (.inl rfl)),?_⟩;refine gp (k:=kW ?U) hr.units (Yn (pqc 2 rfl) ⟨rfl,rfl⟩) (yc (Yr (pq 3 rfl) yB rfl) (yc (Yr (d:=.str (b0 r)) (Yr (pq 3 rfl) yB rfl) yB ?_) yr)) (Yr (pq 3 rfl) yB rfl) ?AV ?_ ?_
  .show atI (r.2.1.map D.str) 0=_;rw[ey,hy];rfl
  .rw[yd,yd,yH,sizeLine_eq];lia
  .refine y9 ⟨_,rfl,?_⟩;have e1:pK (((ss.take i).map fun r=>?U).map kW) (kW ?U)=((ss.take (i+1)).map fun r=>?U).map kW:=by
    rw[xM ip,Yg hr',yk];unfold pK;rw[ye hn];rfl
   have e2:pA (((ss.take i).map fun r=>?U).map kW) (((ss.take i).map ?qD).map sh) (kW ?U) (sh r.2.2)=((ss.take (i+1)).map ?qD).map sh:=by
    rw[xx ip,Yg hr',yk];unfold pA;rw[ye hn];rfl
   rw[e1,e2];rfl
 .rintro Γ Ω ⟨x3,rfl,rfl⟩;rw[YF,yI];refine FX (i:=2) rfl ?_;refine kQ (i:=4) jb.nd rfl (.inl rfl) ?C1 fun l4=>?_;refine kQ (i:=5) jb.nd rfl (.inl rfl) ?C1 fun l5=>?_;refine jF PassesOwn.never rfl (QH (pq 0 rfl)) (fun i Γ Ω=>∃ x6,Γ=[some (.lst (yT L)),some (.lst (yD ss)),some (.dt ((ss.map fun r=>?U).map kW) ((?Lt).map sh)),x3,some (.raw (.ref l4)),some (.raw (.ref l5)),x6,none,none]/\Ω=[(l5,YW K (tb i fun r=>shR L.length (idM L r))),(l4,YW K (tb i fun r=>shR L.length (wM2 L ss r)))]) ⟨_,rfl,rfl⟩ ?_ ?_
  .rintro i d Γ Ω hd ⟨x6,rfl,rfl⟩;obtain⟨h,hh,rfl⟩:=je hd;have hi:i<L.length:=(?Gh).1;have eh:L.getD i "" = h:=by rw[yW,hh];rfl
   refine⟨_,(Yl (i:=6) jb.nd rfl (.inr rfl)),?_⟩;refine kK ?zT ?_;refine JF (i:=4) rfl (.inl rfl) rfl (PF3.p (Jb (SX:=yo j8) (XN:=["heads", "steps", "straight", "rule", "ways", "ends", "head", "chains", "found"]) (N:=["other", "straight", "head"]) (nt:=1) (caps:=[2,6]) (pre:=(fun k=>tb k fun j=>sh (wM2 L ss i j))) ⟨rfl,?E,?E,?E,rfl,?E⟩ (QH (pq 0 rfl)) ?_ ?_ ?_)) ?_ ?_
   .intro k hk;rw[YK] at hk;rw[YT,sizeLine_eq];lia
   .rfl
   .intro c k d hd;obtain⟨o,ho,rfl⟩:=je hd;refine⟨_,(Yl (i:=0) (show List.Nodup (α:=Str) ["other", "straight", "head"] by decide +kernel) rfl (.inl rfl)),(Sub.set rfl),.inl ⟨sh (wM2 L ss i k),zU,(zC (im (k:=kW (h,o)) hr.units (pqc 1 rfl) (yc (pqc 2 rfl) (yc (pq 0 rfl) yr)) (Y5 y6 rfl)) ?_),?_⟩⟩
    .unfold wM2;rw[eh,show L.getD k "" = o by rw[yW,ho];rfl,VH ip];unfold kA;cases vA (ss.map fun r=>?U) (ss.map ?qD) (h,o) <;> rfl
    .exact zw
   .rw[YT,sizeLine_eq];lia
   rw[YK];refine kK ?zT ?_;refine JF (i:=5) rfl (.inl rfl) rfl (PF3.p (Jb (SX:=yo j8) (XN:=["heads", "steps", "straight", "rule", "ways", "ends", "head", "chains", "found"]) (N:=["other", "head"]) (nt:=1) (caps:=[6]) (pre:=(fun k=>tb k fun j=>sh (idM L i j))) ⟨rfl,?E,?E,?E,rfl,?E⟩ (QH (pq 0 rfl)) ?_ ?_ ?_)) ?_ ?_
   .intro k hk;rw[YK] at hk;rw[YT,sizeLine_eq];lia
   .rfl
   .intro c k d hd;obtain⟨o,ho,rfl⟩:=je hd;refine⟨_,(Yl (i:=0) (show List.Nodup (α:=Str) ["other", "head"] by decide +kernel) rfl (.inl rfl)),(Sub.set rfl),.inl ⟨sh (idM L i k),zU,(mU (d:=sh (idM L i k)) (qI (XV (pqc 1 rfl) (pq 0 rfl))) (fun hc=>(zC (Y5 Zd rfl) ?_)) (fun hc=>(zC (Y5 y6 rfl) ?_))),?_⟩⟩
    .have hc:=of_decide_eq_true hc;unfold idM;rw[eh,show L.getD k "" = o by rw[yW,ho];rfl,yf hc]
    .have hc:=of_decide_eq_false hc;unfold idM;rw[eh,show L.getD k "" = o by rw[yW,ho];rfl,ye hc]
    .exact zw
   .rw[YT,sizeLine_eq];lia
   rw[YK];refine y9 ⟨_,rfl,?_⟩;rw[zw,zw];rfl
  .rintro Γ Ω ⟨x6,rfl,rfl⟩;rw[YK];refine j6 (i:=5) rfl ?_;refine j6 (i:=4) rfl ?_;refine QQ (i:=7) jb.nd rfl (.inl rfl) (cH fun lc=>?_);have gI:km L.length L.length s' (idM L):=fun i j _ _=>by
    unfold idM;split
    .exact⟨?B,gU.mono hs1⟩
    .exact⟨?B,Xw.mono hs1⟩
   have gW:km L.length L.length s' (wM2 L ss):=fun i j _ _=>nA hsz hs1;refine jF PassesOwn.never rfl (fx z.zip rfl (pq 0 rfl) (Yp (d:=shM L.length L.length (chF L ss)) XD ?A2 rfl (yc (pq 4 rfl) (yc (pq 5 rfl) yr)) ?_)) (fun i Γ Ω=>∃ x6 x8,Γ=[some (.lst (yT L)),some (.lst (yD ss)),some (.dt ((ss.map fun r=>?U).map kW) ((?Lt).map sh)),x3,some (shM L.length L.length ?Ge),some (shM L.length L.length (idM L)),x6,some (.raw (.ref lc)),x8]/\Ω=[(lc,oDk K ((L.take i).map qv) (tb i fun r=>.dk ?Bd (tb L.length fun j=>?KC)))]) ⟨_,_,rfl,rfl⟩ ?_ ?_
   .exact⟨L.length,L.length,s',?Ge,idM L,rfl,rfl,⟨?A,?A,gW,gI,hsk⟩,hpv⟩
   .rintro i d Γ Ω hd ⟨x6,x8,rfl,rfl⟩;obtain⟨h,hi,hh,rfl⟩:=BG hd;refine⟨_,(vo rfl (qh (Yl (i:=6) jb.nd rfl (.inr rfl)) (qh (Yl (i:=8) jb.nd rfl (.inl rfl)) zD))),?_⟩;refine cp (k:=qv h) hr.units (pq 7 rfl) (pqc 6 rfl) (Yn (pC rfl z.dict rfl z.zip rfl (zC (pq 0 rfl) (congrArg D.lst Vd)) (pq 8 rfl) (xN nd) ?_ ?_) ⟨_,_,[],?AV,?_,?_⟩)
    .rw[yd,YT]
    .rw[yd,sizeLine_eq];lia
    .rw[yd,yH,sizeLine_eq];lia
    .refine y9 ⟨_,_,rfl,?_⟩;have hn:qv h∉(L.take i).map qv:=fun z=>by
      have:=ue (f:=fun x:Str=>x) (by simpa using nd) hh;exact this (by simpa using (kI j3).mp z)
     have e1:pK ((L.take i).map qv) (qv h)=(L.take (i+1)).map qv:=by
      unfold pK;rw[ye hn,Yg hh,yk];rfl
     have e2:∀ v:D,pA ((L.take i).map qv) (tb i fun r=>D.dk ?Bd (tb L.length fun j=>?KC)) (qv h) v=(tb i fun r=>D.dk ?Bd (tb L.length fun j=>?KC))++[v]:=fun v=>by
      unfold pA;rw[ye hn]
     rw[e1,e2,zw];rfl
   .rintro Γ Ω ⟨x6,x8,rfl,rfl⟩;rw[tR,yI];refine bG (i:=7) rfl ?_;refine qH (pq 7 rfl) ?_;rfl
end
section
variable {P:?A6}{w:?A5}{K:?A1}{mg:?G}{base:Heap}{C_Grammar C_Sums C_Parts:Addr}
variable (P w K mg base C_Sums) in
abbrev hI:Prop:=OkM P w K mg base CX0 2 C_Sums "within" ["self", "head", "i", "j"] (spP K 4 (AG C_Sums))
theorem xY (y8:?BM)(y6:?V)(d:YZ K C_Sums "within" "Sums.within" Jp ["self", "head", "i", "j"])  : ?Jf:=by
 refine uB d xp rfl fun f cdv A outer s H E hr ds r hC B hB=>?_;obtain⟨g,row,hs,br,ch,kw,kn,h,i,j,rfl,rfl⟩:=hC;refine qH (im (k:=?D3) hr.units (zd ?A9 y8.c y8.n_known_sums rfl) ?Gz ?Fc) ?_;show(vA (kn.1.map kS) (kn.2.map sh) ?D3).getD (sh 0)=sh ?IZ;rw[VH UR];unfold JA;cases vA kn.1 kn.2 ?zR <;> rfl
variable (P w K mg base C_Grammar C_Sums) in
abbrev cx:Prop:=OkM P w K mg base CX0 3 C_Sums "whole" ["self"] (spP K 1 (Aw C_Sums C_Grammar))
theorem Xh (z:?AM)(y8:?BM)(yP:?BL)(d:YZ K C_Sums "whole" "Sums.whole" J6 ["self"])(vX:?Jf)(Q5:?GS):?IP:=by
 refine uB d Xs rfl fun f cdv A outer s H E hr ds r hC B hB=>?_;obtain⟨st,rs,row,hs,br,ch,kw,kn,rfl,rfl⟩:=hC;refine qH (K4 (d:=sh ?Oa) vX y8.c ?A2 ?A9 kJ (yc (Kv (d:=.str st) Q5 yP.c ?A2 (zd ?A9 y8.c y8.n_grammar rfl) za ?_) (yc yB (yc (zy z.len rfl (zd ?A9 y8.c y8.n_row rfl)) yr))) ?_) ?_
 .exact ?FP
 .exact⟨?BX,?CH,hs,br,ch,kw,kn,st,0,?Gy,by rw[yd];rfl,rfl⟩
 rfl
variable (P w K mg base C_Sums) in
abbrev cu:Prop:=OkM P w K mg base CX0 3 C_Sums "worth" ["self", "symbol", "i", "j"] (spP K 4 (Cd C_Sums))
theorem Xg (y8:?BM)(y6:?V)(Zd:?wJ)(d:YZ K C_Sums "worth" "Sums.worth" J5 ["self", "symbol", "i", "j"])(vX:?Jf):?Ha:=by
 refine uB d Xx rfl fun f cdv A outer s H E hr ds r hC B hB=>?_;obtain⟨g,br,ch,kw,row,hs,kn,x,i,j,rfl,rfl,hi⟩:=hC;refine zO (qI (FK hr.units (pq 1 rfl) (zd (pq 0 rfl) y8.c y8.n_known_heads rfl) (.inl rfl) ?_)) ?_ ?_
 .exact Vj
 .intro hk;rw[vJ] at hk;have hk:=of_decide_eq_true hk;refine qH (K4 (d:=sh ?Ll) vX y8.c ?A2 (pq 0 rfl) kJ (yc (pq 1 rfl) (yc (pq 2 rfl) (yc (pq 3 rfl) yr))) ?_) ?_
  .exact⟨_,_,_,_,_,_,kn,x,i,j,rfl,rfl⟩
  unfold woS;rw[yf hk]
 .intro hk;rw[vJ] at hk;have hk:=of_decide_eq_false hk;refine ?B2;obtain⟨y,hr0⟩:∃ y,row[i]?=some y:=⟨_,yl hi⟩
  refine qH (mU (d:=sh ?El) (PW3.t (dc (qI (KQ (pq 3 rfl) (zf (pq 2 rfl) yB))) fun _=>(wU (qI (XV (Yr (d:=.str y) (zd (pq 0 rfl) y8.c y8.n_row rfl) (pq 2 rfl) ?_) (pq 1 rfl)))))) (fun hc=>(zC (Y5 Zd rfl) ?_)) (fun hc=>(zC (Y5 y6 rfl) ?_))) ?_
  .exact JX (by rw[yz,hr0];rfl)
  .rw[Yw] at hc;have h1:=of_decide_eq_true hc.1;have h2:=of_decide_eq_true hc.2;unfold woS;rw[ye hk,yf ⟨?A,by rw[hr0,h2]⟩]
  .unfold woS;rw[ye hk,ye ?_];rintro⟨h1,h2⟩;rw[hr0] at h2;rw[yL (show(j:Int)=(i:Int)+1 by lia),yL ?PH] at hc;cases hc
  rfl
end
section
variable {P:?A6}{w:?A5}{K:?A1}{mg:?G}{base:Heap}{C_Grammar C_Sums C_Parts:Addr}
variable (P w K mg base) in
abbrev gE:Prop:=OkF P w K mg base CX0 34 "sum_of_products" ["pairs"] (spP K 1 D0)
theorem Vh (z:?AM)(y8:?BM)(y6:?V)(d:?uB)(zc:?Ha)(YM:?Lr)(ih:OkM P w K mg base CX0 (3*n+34) C_Sums "worth_of_body" ["self", "body", "i", "j"] ?Pg):OkM P w K mg base CX0 (3*n+34+1) C_Sums "sum_of_partings" ["self", "body", "i", "j"] (spS K 4 ?Fw (Ii (n+1))):=by
 refine Vi d QV rfl HG fun f cdv A outer s H E hr t ds t' r hC B=>?_;obtain⟨x,y,rest,i,j,M,b,rfl,rfl,rfl,hn,hn4,hij,hjr,g,hkl⟩:=hC;have hB:big=67108864:=rfl;have hM:=g.d;have rl:=g.rl;have ac:=mS (hs:=t.hs) (row:=t.row) (kn:=t.kn) (kw:=t.kw) ?A g.kn (x:=x) (y:=y) (rest:=rest) (i:=i) (j:=j) (wn hM g.kn ?zE (by simp)) ?A g.kw;have np:nP (rest.length+2) i j<=4:=by unfold nP;lia
 have hp11:11 ^ (rest.length+1)<=11 ^ 3:=YU ?B ?A;refine kQ (i:=4) QV.nd rfl (.inl rfl) ?C1 fun l=>?_;refine jF PassesOwn.never rfl (xC (n:=?vV) (lo:=i+1) z.range rfl (zf (pq 2 rfl) yB) (zf (m7 (pq 3 rfl) (zy z.len rfl (pq 1 rfl))) yB) ?_ ?_ ?_) (fun k Γ Ω=>∃ x5 x6,Γ=[some (.raw (.ref t.a)),some (Yd (x::y::rest)),some (.int (i:Int)),some (.int (j:Int)),some (.raw (.ref l)),x5,x6]/\Ω=(l,YW K ((?DB).1.map Y4))::omG P w K C_Sums {t with kw:=(?DB).2}) ?_ ?_ ?_
 .push_cast;lia
 .rw[yd];unfold nP;simp only[yw];lia
 .rw[yd];simp only[yw];lia
 .exact⟨_,_,rfl,rfl⟩
 .rintro k d Γ Ω hd ⟨x5,x6,rfl,rfl⟩;obtain⟨hk,rfl⟩:=zu hd;have a:=ac k ?A;have hm:i+1+k+1<=j:=by unfold nP at hk;lia
  have es:ZY t x y rest i j (k+1)=ja (fun m=>?Nq) (fun m=>?NY) i (ZY t x y rest i j k) k:=by
   unfold ZY;rw[qw,y7];rfl
  change AcOk M (9*?P - 10) k (t.kw.length+k*11 ^ (rest.length+1)) ?DB at a;have hkm:k*11 ^ (rest.length+1)<=4*11 ^ 3:=qt ?A hp11;have kl:=a.kl;refine⟨_,(Yl (i:=5) QV.nd rfl (.inl rfl)),?_⟩;refine QQ (i:=6) QV.nd rfl (.inl rfl) (Kz (L:=?AN) (d:=sh (woS t.hs t.row t.kn i (i+1+k) x)) (Γ':=[some (sO C_Sums t.g (Yd t.row) (.lst (yT t.hs)) (.lst (yD t.br)) (chD t.L t.ch) (knD t.kn) (.raw (.ref t.c))),some (Yd (x::y::rest)),some (.int (i:Int)),some (.int (j:Int)),some (.raw (.ref l)),some (.int ((i+1+k:Nat):Int)),x6]) (K4 zc y8.c ?Gl (pq 0 rfl) vP (yc (Yr (d:=.str x) (pq 1 rfl) yB (JX (j:=0) rfl)) (yc (pq 2 rfl) (yc (pq 5 rfl) yr))) ?_) (aJ (i:=0) (j:=5) (a:=t.a) (b:=t.b) (Zw qV) rfl ?BC rfl ?De) (qW vm UM) rfl ?_)
  .exact⟨t.g,.lst (yD t.br),chD t.L t.ch,.raw (.ref t.c),t.row,t.hs,t.kn,x,i,i+1+k,rfl,rfl,?A⟩
  refine zO (qI (Xn hr.units (pq 6 rfl) (Y5 y6 rfl) Ja Jg)) ?_ ?_
  .intro hz;rw[QL] at hz;have hz:¬ woS t.hs t.row t.kn i (i+1+k) x=0:=by simpa using hz
   refine oi (i:=4) (l:=l) rfl (.inl rfl) rfl yh (fun F o ⟨xs,e,_⟩=>⟨xs,e⟩) (ax (YL (Yn (pq 6 rfl) (YL (uU (t:={t with kw:=(?DB).2}) (t':={t with kw:=(?uS).2}) (d:=sh (?uS).1) (Ω4:=[(l,YW K ((?DB).1.map Y4))]) ih y8.c ?Gl (pq 0 rfl) ?BC jp (yc (zC (d:=Yd ?zE) (uM (pq 1 rfl) (VA yB) VL ?_) ?_) (yc (pq 5 rfl) (yc (pq 3 rfl) yr))) rfl (Yu (l₁:=[(l,YW K ((?DB).1.map Y4))])) ?_ (qT yr ⟨?_,_,omG P w K C_Sums {t with kw:=(?uS).2},Yu,?_,?_⟩))))))
   .rintro⟨h1,_⟩;simp[HT.sIx] at h1
   .exact ?KY
   .exact⟨?zE,i+1+k,j,M,b,rfl,rfl,rfl,by simp,by simp only[yw];lia,?A,?A,hjr,⟨g.d,g.db,g.bl,g.rl,g.kn,a.kw⟩,by show(?DB).2.length+n*20000<=16000000;lia⟩
   .show 2<=sizeLine;decide
   .rw[yd,sizeLine_eq];have:=a.len;lia
   .refine y9 (y9 ⟨_,_,rfl,?_⟩);rw[es];unfold ja;rw[ye hz,yk];rfl
  .intro hz;rw[QL] at hz;have hz:woS t.hs t.row t.kn i (i+1+k) x=0:=by simpa using hz
   refine y9 (y9 ⟨_,_,rfl,?_⟩);rw[es];unfold ja;rw[yf hz]
 .rintro Γ Ω ⟨x5,x6,rfl,rfl⟩;rw[jm];have a:=ac _ ?AH;change AcOk M (9*?P - 10) _ _ ?Fg at a;refine vp (kL (L:=?AN) (d:=sh (ju (?Fg).1)) (Γ':=[some (.raw (.ref t.a)),some (Yd (x::y::rest)),some (.int (i:Int)),some (.int (j:Int)),some (.lst ((?Fg).1.map Y4)),x5,x6]) (Yp YM ?Gl rfl (yc (pq 4 rfl) yr) ?_) (zl (i:=4) qV rfl yh Ko) (qW vm UM) rfl ⟨rfl,fun p hp=>yb _ hp⟩);refine⟨_,?FX,rfl,rfl,fun p hp=>⟨g.sz (?M4).2.1 ?A,g.sz (?M4).2.2 ?A⟩,lW (by have:=a.len;lia),mX⟩
theorem VB (z:?AM)(y8:?BM)(y6:?V)(d:YZ K C_Sums "worth_of_body" "Sums.worth_of_body" Qh ["self", "body", "i", "j"])(d':?uB)(zc:?Ha)(YM:?Lr):∀ n,OkM P w K mg base CX0 (3*n+34) C_Sums "worth_of_body" ["self", "body", "i", "j"] ?Pg:=by
 intro n
 induction n with
 |zero=>
  refine Vi (k:=33) d Zh rfl D1 fun f cdv A outer s H E hr t ds t' r hC B=>?_;obtain⟨body,i,j,M,b,rfl,rfl,rfl,h1,h2,_⟩:=hC;lia
 |succ n ih=>
  have op:=Vh z y8 y6 d' zc YM ih;refine Vi (k:=3*n+36) d Zh rfl D1 fun f cdv A outer s H E hr t ds t' r hC B=>?_;obtain⟨body,i,j,M,b,rfl,rfl,rfl,h1,h2,hn4,hij,hjr,g,hkl⟩:=hC;obtain⟨a,b',c,gd,row,hs,br,L,ch,kn,kw⟩:=t;dsimp only at hjr hkl ⊢
  match body,h1,h2 with
  |[x],_,_=>
   refine ?NH
   .intro _;rw[wBm];refine vp (Kz (L:=?AN) (d:=sh ?El) (Γ':=[some (sO C_Sums gd ?CH ?Br (.lst (yD br)) (chD L ch) (knD kn) ?E9),some (Yd [x]),some ?wK,some ?qE]) (K4 zc y8.c ?Gl ?A9 vP (yc (Yr (d:=?Ce) ?AQ yB rfl) ?Pb) ⟨gd,.lst (yD br),chD L ch,?E9,row,hs,kn,x,i,j,rfl,rfl,?A⟩) (aJ (i:=0) (j:=5) (a:=a) (b:=b') (Zw qV) rfl yh rfl ?BC) UM rfl ⟨rfl,fun p hp=>hp⟩)
   .intro hk;have hk:decide ((1:Int)=1)=false:=hk;exact ?MD
  |x::y::rest,_,h2=>
   have e0:decide (((List.map D.str (x::y::rest)).length:Int)=1)=false:=yA (by rw[yd];simp only[yw];lia);refine ?NH
   .intro hk;rw[e0] at hk;cases hk
   .intro _;refine ?B2;have tup:∀ {X:L2.Cx} {Γ:Ga} {es:List Expr} {x1:Nat} {tp:Pos},P3 X Γ (.Tuple es x1 tp) (.tup [Yd (x::y::rest),.int (i:Int),.int (j:Int)])->P3 X Γ (.Tuple es x1 tp) (kD (kB ?qU)):=fun h=>by rw[Hy];exact h
    cases q:kH kw ?qU with
    |none=>
     refine U4 (az hr.units (Yn ?GZ ⟨_,rfl,jT (d:=?E9) (a:=a) ?A9 yh y8.c y8.n_known_worths rfl ⟨c,kwV kw,rfl,?De,fun _=>?_,fun hk=>?_⟩⟩))
     .have ac:=mS (hs:=hs) (row:=row) (kn:=kn) (kw:=kw) (by have:=g.d;lia) g.kn (x:=x) (y:=y) (rest:=rest) (i:=i) (j:=j) (wn g.d g.kn ?zE (by simp)) (by have:row.length<=5:=g.rl;lia) g.kw _ ?AH;have hp11:11 ^ (rest.length+1)<=11 ^ 3:=YU ?B (by simp only[yw] at h2;lia);have np:nP (rest.length+2) i j<=4:=by have:row.length<=5:=g.rl;unfold nP;lia
      have hkm:nP (rest.length+2) i j*11 ^ (rest.length+1)<=4*11 ^ 3:=qt np hp11;have kl:=ac.kl;rw[wBm,q];dsimp only;refine gf hr.units (uU (t:=?O4) (t':=⟨a,b',c,gd,row,hs,br,L,ch,kn,(?Fh).2⟩) (d:=sh (ju (?Fh).1)) (Ω4:=[]) op y8.c ?Gl ?A9 yh Vl ?Gz rfl ?AV ⟨x,y,rest,i,j,M,b,rfl,rfl,rfl,h2,hn4,hij,hjr,g,hkl⟩
       (jT (d:=?E9) (a:=a) ?A9 yh y8.c y8.n_known_worths rfl ⟨c,rfl,Yn ?GZ ⟨_,_,_,rfl,tH,?_,?_⟩⟩))
      .show(kwV (?Fh).2).length<sizeLine;unfold kwV;rw[yd,sizeLine_eq];unfold ZY;dsimp only;lia
      .show W3 _ B _ _ ((c,Jz P w K c (wB (kwV (?Fh).2) (kB ?qU) (sh (ju (?Fh).1))))::_) _;rw[C1];refine ?B2;refine vp (aG hr.units (jT (d:=?E9) (a:=a) ?A9 ?BC y8.c y8.n_known_worths rfl ⟨c,rfl,Yn ?GZ ⟨_,_,_,rfl,yh,by rw[Uv,sR];rfl,rfl,fun p hp=>?_⟩⟩));simp only[omG,yG,Y8,or_false] at hp ⊢;rcases hp with z|z|z
       .exact .inr ?BY
       .exact ?GL
       .exact ?BY
     .rw[Uv,q] at hk;cases hk
    |some v=>
     refine U4 (az hr.units (Yn ?GZ ⟨_,rfl,jT (d:=?E9) (a:=a) ?A9 yh y8.c y8.n_known_worths rfl ⟨c,kwV kw,rfl,?De,fun hk=>?_,fun _=>?_⟩⟩))
     .rw[Uv,q] at hk;cases hk
     .refine ?B2;rw[wBm,q];exact vp (aG hr.units (jT (d:=?E9) (a:=a) ?A9 yh y8.c y8.n_known_worths rfl ⟨c,rfl,Yn ?GZ ⟨_,_,_,rfl,?De,by rw[Uv,q];rfl,rfl,fun p hp=>hp⟩⟩))
end
section
variable {P:?A6}{w:?A5}{K:?A1}{mg:?G}{base:Heap}{C_Grammar C_Sums C_Parts:Addr}
variable (P w K mg base C_Sums) in
abbrev BM:Prop:=OkM P w K mg base CX0 47 C_Sums "ends_at" ["self", "i", "j"] (spS K 3 ?Fw Hu)
variable (P w K mg base C_Sums) in
abbrev ir:Prop:=OkM P w K mg base CX0 46 C_Sums "worth_of_body" ["self", "body", "i", "j"] (spS K 4 ?Fw (oj 4))
theorem UH (y8:?BM)(y6:?V)(d:YZ K C_Sums "ends_at" "Sums.ends_at" jY ["self", "i", "j"])(B1:?L5)(Z4:?F1)(Z3:?Ev):?OI:=by
 refine Vi d zx rfl HL fun f cdv A outer s H E hr t ds t' r hC B=>?_;obtain⟨i,j,M,b,m,rfl,rfl,rfl,hij,hjr,g,ks,hm⟩:=hC;obtain⟨a,b',c,gd,row,hs,br,L,ch,kn,kw⟩:=t;dsimp only at hjr g ks ⊢;have hB:big=67108864:=rfl;have hM:=g.d;have rl:=g.rl;have bl:=g.br.len;have kl3:kw.length<=m*600000:=ks.2.2;have k1:KnG M (m*30) kn:=ks.1;have k2:KwD M kw:=ks.2.1;have eo:=uS (row:=row) (kw:=kw) g.d k1.d g.br hij ?A k2;have gs:=ks.gs g (a:=a) (b':=b') (c:=c) (gd:=gd);refine QQ (i:=3) zx.nd rfl (.inl rfl) (cH fun l=>?_);refine kE PassesOwn.never rfl (tF (jT (d:=.lst (yD br)) (a:=a) (pq 0 rfl) ?BC y8.c y8.n_branches rfl ⟨_,rfl,fun k Γ Ω=>∃ x4 x5,Γ=[some (.raw (.ref a)),some (.int (i:Int)),some (.int (j:Int)),some (.raw (.ref l)),x4,x5]/\Ω=(l,oDk K (((br.take k).foldl ?Ed ?yD).1.1.map qv) (((br.take k).foldl ?Ed ?yD).1.2.map sh))::omG P w K C_Sums ⟨a,b',c,gd,row,hs,br,L,ch,kn,((br.take k).foldl (Q9 hs row kn i j) ?yD).2⟩,⟨_,_,rfl,rfl⟩,?_,?_⟩))
 .rintro k d Γ Ω hd ⟨x4,x5,rfl,rfl⟩;obtain⟨r,hr',rfl⟩:=QC hd;have hk':k<br.length:=(?Da).1;have hrm:=yx hr';obtain⟨b1,b2,b3⟩:=g.br.body r hrm;have eo:=eo k ?A;have en:(br.take (k+1)).foldl (Q9 hs row kn i j) ?yD=Q9 hs row kn i j ((br.take k).foldl (Q9 hs row kn i j) ?yD) r:=by rw[Yg hr',y7];rfl
  generalize (br.take k).foldl ?Ed ?yD=e at *;have kl:=eo.kl;have w9:=HA (hs:=hs) (row:=row) hM ks.1.d hij ?A eo.kw b1 b3;refine⟨_,(Yl (i:=4) zx.nd rfl (.inl rfl)),?_⟩;refine QQ (i:=5) zx.nd rfl (.inl rfl) (uU (t:=⟨a,b',c,gd,row,hs,br,L,ch,kn,e.2⟩) (t':=⟨a,b',c,gd,row,hs,br,L,ch,kn,(?jP).2⟩) (d:=sh (?jP).1) (Ω4:=[(l,oDk K (e.1.1.map qv) (e.1.2.map sh))]) B1 y8.c ?A2 (pq 0 rfl) ?BC jp (yc (Yr (pq 4 rfl) yB rfl) (yc (pq 1 rfl) (yc (pq 2 rfl) yr))) rfl (Yu (l₁:=[(l,oDk K (e.1.1.map qv) (e.1.2.map sh))])) ?_ ?_)
  .exact⟨r.2.1,i,j,M,b,rfl,rfl,rfl,b1,b2,?B,hij,hjr,⟨g.d,g.db,g.bl,g.rl,ks.1.d,eo.kw⟩,by show e.2.length+4*20000<=16000000;lia⟩
  refine kK Yu ?_;refine zO (qI (Xn hr.units (pq 5 rfl) (Y5 y6 rfl) Ja Jg)) ?_ ?_
  .intro hz;rw[QL] at hz;have hz:¬ (wBm hs row kn r.2.1 i j e.2).1=0:=by simpa using hz
   have gg:=gs.sz (OkN.up ?A (bh ?A eo.vals (x:=r.1)) ?A) ?A;have hq:=gs.sz ?L3 ?B;have hw:=gs.sz w9 ?A;have ht:=gs.sz (OkD.mul ?A ?L3 w9) ?A;refine cp (k:=qv r.1) hr.units (pq 3 rfl) (Yr (pq 4 rfl) yB rfl) (Ux Z4 ?A2 rfl (YL (tI (k:=qv r.1) hr.units (pq 3 rfl) yh (Yr (pq 4 rfl) yB rfl) (Y5 y6 rfl) (YL (Yn (Yp (d:=sh (r.2.2*(?jP).1)) Z3 ?A2 rfl (yc (Yr (pq 4 rfl) yB rfl) (yc (pq 5 rfl) yr)) ?_) (qT yr ⟨sh ((vA e.1.1 e.1.2 r.1).getD 0+r.2.2*(?jP).1),?_,rfl,_,_,_,?AV,?_,?_⟩))))))
   .exact⟨r.2.2,(?jP).1,?FX,?FX,rfl,rfl,hq.1,hw.1,hq.2,hw.2,?B,?B,?Bx⟩
   .refine⟨(vA e.1.1 e.1.2 r.1).getD 0,r.2.2*(?jP).1,?FX,?FX,?_,rfl,gg.1,ht.1,gg.2,ht.2,?B,?B,?Bx⟩;rw[VH j3];cases vA e.1.1 e.1.2 r.1 <;> rfl
   .rw[yd,sizeLine_eq];have:=eo.len;lia
   .refine y9 (y9 ⟨_,_,rfl,?_⟩);rw[en,xM j3,xx j3];unfold Q9;rw[ye hz];rfl
  .intro hz;rw[QL] at hz;have hz:(wBm hs row kn r.2.1 i j e.2).1=0:=by simpa using hz
   refine y9 (y9 ⟨_,_,rfl,?_⟩);rw[en];unfold Q9;rw[yf hz];rfl
 .rintro Γ Ω ⟨x4,x5,rfl,rfl⟩;rw[YF,yI];refine bG (i:=3) rfl ?_;exact qH (pq 3 rfl) ⟨rfl,fun p hp=>hp⟩
variable (P w K mg base C_Sums) in
abbrev tt:Prop:=OkM P w K mg base CX0 48 C_Sums "settle" ["self", "i", "j"] (spS K 3 ?Fw Ih)
theorem wJ (y8:?BM)(y6:?V)(d:YZ K C_Sums "settle" "Sums.settle" jP ["self", "i", "j"])(Lh:?OI)(YM:?Lr):?Or:=by
 refine Vi d zR rfl HH fun f cdv A outer s H E hr t ds t' r hC B=>?_;obtain⟨i,j,M,b,m,rfl,rfl,rfl,hij,hjr,g,ks,hm⟩:=hC;obtain⟨a,b',c,gd,row,hs,br,L,ch,kn,kw⟩:=t;dsimp only at hjr g ks ⊢;have hB:big=67108864:=rfl;have hM:=g.d;have rl:=g.rl;have bl:=g.br.len;have ll:=g.ll;have k1:KnG M (m*30) kn:=ks.1;have k2:KwD M kw:=ks.2.1;have eo:=uS (row:=row) (kw:=kw) g.d k1.d g.br hij ?A k2 br.length ?AH;rw[yI] at eo;have gs:=ks.gs g (a:=a) (b':=b') (c:=c) (gd:=gd);refine QQ (i:=3) zR.nd rfl (.inr rfl) (uU (t:=⟨a,b',c,gd,row,hs,br,L,ch,kn,kw⟩) (t':=⟨a,b',c,gd,row,hs,br,L,ch,kn,(?Jc).2⟩) (d:=enD (?Jc).1) (Ω4:=[]) Lh y8.c ?A2 (pqc 0 rfl) yh wH (yc (pq 1 rfl) (yc (pq 2 rfl) yr)) rfl ?AV ⟨i,j,M,b,m,rfl,rfl,rfl,hij,hjr,g,ks,hm⟩ ?_);unfold vE;dsimp only;change EnG M (9*?P - 8) br.length _ L ?Jc at eo;generalize vn hs row kn br i j kw=e at *;refine kE PassesOwn.never rfl (DL (jT (d:=chD L ch) (a:=a) (pqc 0 rfl) yh y8.c y8.n_chains rfl ⟨_,_,rfl,fun k Γ Ω=>∃ x4 x5,Γ=[some (.raw (.ref a)),some (.int (i:Int)),some (.int (j:Int)),some (enD e.1),x4,x5]/\Ω=omG P w K C_Sums ⟨a,b',c,gd,row,hs,br,L,ch,(L.take k).foldl (QU L ch e.1 i j) kn,e.2⟩,⟨_,_,rfl,rfl⟩,?_,?_⟩))
 .rintro k d Γ Ω hd ⟨x4,x5,rfl,rfl⟩;rw[←Vd] at hd;obtain⟨h,hh,rfl⟩:=je hd;have hk:k<L.length:=(?Gh).1;have hL:=yx hh;have ps:=sE hM g.ch eo bl hL;have en:(L.take (k+1)).foldl (QU L ch e.1 i j) kn=QU L ch e.1 i j ((L.take k).foldl (QU L ch e.1 i j) kn) h:=by rw[Yg hh,y7];rfl
  have kl:=sJ (L:=L) (ch:=ch) (e:=e.1) (i:=i) (j:=j) (hs:=L.take k) (kn:=kn);have kl2:=k1.len;rw[yH] at kl;generalize (L.take k).foldl (QU L ch e.1 i j) kn=kn' at *;refine⟨_,(Yl (i:=4) zR.nd rfl (.inr rfl)),?_⟩;refine QQ (i:=5) zR.nd rfl (.inl rfl) (kL (L:=?AN) (d:=sh ?vP) (Γ':=[some (.obj C_Sums sF [gd,Yd row,.lst ?BQ,.lst (yD br),chD L ch,.raw (.ref b'),.raw (.ref c)]),some (.int (i:Int)),some (.int (j:Int)),some (enD e.1),some (.str h),x5]) (Yp (d:=sh ?vP) YM ?A2 rfl (yc (PF3.p (Jb (SX:=yo jP) (XN:=["self", "i", "j", "ends", "head", "total"]) (N:=["last", "self", "ends", "head"]) (nt:=1) (caps:=[0,3,4]) (pre:=(fun k=>((e.1.1.take k).map fun o=>(?IA,(vA e.1.1 e.1.2 o).getD 0)).map Y4)) ⟨rfl,?E,?E,?E,rfl,?E⟩ (bw (pqc 3 rfl)) ?_ ?_ ?_)) yr) ?_) (zl (i:=0) qV rfl yh Z8) UM rfl ?_)
  .intro k hk;rw[yd] at hk;rw[yd,yd,yH,sizeLine_eq];have:=eo.len;lia
  .rfl
  .intro c k d hd;rw[YB] at hd;obtain⟨o,ho,rfl⟩:=Vq hd;have hoL:=eo.keys o (yx ho);refine⟨_,(Yl (i:=0) (show List.Nodup (α:=Str) ["last", "self", "ends", "head"] by decide +kernel) rfl (.inl rfl)),(Sub.set rfl),.inl ⟨Y4 (?IA,(vA e.1.1 e.1.2 o).getD 0),zU,(QO (yc (wd (k:=qv o) (d:=sh ?IA) hr.units (wd (k:=qv h) (d:=.dk ?Bd (tb L.length fun j=>sh (ch ?Io j))) hr.units (zd (pqc 1 rfl) y8.c y8.n_chains rfl) (pqc 3 rfl) ?_) (pq 0 rfl) ?_) (yc (wd (k:=qv o) (d:=sh ((vA e.1.1 e.1.2 o).getD 0)) hr.units (pqc 2 rfl) (pq 0 rfl) ?_) yr))),?_⟩⟩
   .exact cN g.nd hL
   .exact cN g.nd hoL
   .exact GG eo.eq (yx ho)
   .dsimp only;rw[Yg ho,yk,yk];rfl
  .rw[yd,yd,yI];refine⟨W6 L ch e.1 h,?FX,rfl,rfl,fun p hp=>⟨gs.sz (ps p hp).2.1 ?B,gs.sz (ps p hp).2.2 ?A⟩,?_,mX⟩;rw[xk];exact lW (Cf g eo)
  refine zO (qI (Xn hr.units (pq 5 rfl) (Y5 y6 rfl) Ja Jg)) ?_ ?_
  .intro hz;rw[QL] at hz;have hz:¬ u0 L ch e.1 h=0:=by simpa using hz
   refine gp (l:=b') (k:=?D3) (kt:=knK kn') (ds:=knV kn') hr.units (jT (d:=.raw (.ref b')) (a:=a) (pqc 0 rfl) yh y8.c y8.n_known_sums rfl ⟨rfl,rfl⟩) (yc (pqc 4 rfl) (yc (pq 1 rfl) (yc (pq 2 rfl) yr))) (pq 5 rfl) ?zT ?_ ?_
   .unfold knK;rw[yd,sizeLine_eq];lia
   .refine kK ?zT (y9 (y9 ⟨_,_,rfl,?_⟩));rw[en];unfold QU;rw[ye hz];unfold omG v7;dsimp only;rw[show knK (pK kn'.1 ?zR,pA kn'.1 kn'.2 ?zR ?vP)=pK (knK kn') (kS ?zR) from (xM UR).symm,show knV (pK kn'.1 ?zR,pA kn'.1 kn'.2 ?zR ?vP)=pA (knK kn') (knV kn') ?D3 (sh ?vP) from (xx UR).symm];rfl
  .intro hz;rw[QL] at hz;have hz:u0 L ch e.1 h=0:=by simpa using hz
   refine y9 (y9 ⟨_,_,rfl,?_⟩);rw[en];unfold QU;rw[yf hz]
 .rintro Γ Ω ⟨x4,x5,rfl,rfl⟩;rw[yd,yd,yI];exact y9 ⟨rfl,fun p hp=>hp⟩
end
section
variable {P:?A6}{w:?A5}{K:?A1}{mg:?G}{base:Heap}{C_Grammar C_Sums C_Parts:Addr}
variable (P w K mg base C_Parts) in
abbrev iO:Prop:=OkM P w K mg base CX0 2 C_Parts "beyond" ["self", "head", "i", "j"] (spP K 4 (A7 C_Parts))
theorem wu (yZ:?D4)(y6:?V)(d:YZ K C_Parts "beyond" "Parts.beyond" JQ ["self", "head", "i", "j"])  : ?Kw:=by
 refine uB d wC rfl fun f cdv A outer s H E hr ds r hC B hB=>?_;obtain⟨sm,rl,sp,hd,kn,h,i,j,rfl,rfl⟩:=hC;refine qH (im (k:=?D3) hr.units (zd ?A9 yZ.c yZ.n_known_beyonds rfl) ?Gz ?Fc) ?_;show(vA (kn.1.map kS) (kn.2.map sh) ?D3).getD (sh 0)=sh ?IZ;rw[VH UR];unfold JA;cases vA kn.1 kn.2 ?zR <;> rfl
end
section
variable {P:?A6}{w:?A5}{K:?A1}{mg:?G}{base:Heap}{C_Grammar C_Sums C_Parts:Addr}
variable (P w K mg base C_Sums C_Parts) in
abbrev cT:Prop:=OkM P w K mg base CX0 3 C_Parts "hand" ["self", "body", "i", "j", "pair"] (spN K 5 ?H6 AI Df)
theorem WR (z:Zs mg)(yZ:ClsP K C_Parts)(y8:ClsS K C_Sums)(y6:Qc K mg "NOUGHT" (sh 0))(d:YZ K C_Parts "hand" "Parts.hand" zP ["self", "body", "i", "j", "pair"]):cT P w K mg base C_Sums C_Parts:=by
 refine By d Xo rfl fun f cdv A outer s H E hr t ds hC B=>?_;obtain⟨b,i,j,n,p,q,rfl,b1,hij,el,n1⟩:=hC;obtain⟨x,rest,rfl⟩:∃ x rest,b=x::rest:=by
  cases b with
  |nil=>simp at b1
  |cons x rest=>exact⟨x,rest,rfl⟩
 have ms:(t.s.a,zi K C_Sums sF [t.s.g,Yd t.s.row,.lst (yT t.s.hs),.lst (yD t.s.br),chD t.s.L t.s.ch,.raw (.ref t.s.b),.raw (.ref t.s.c)])∈zQ P w K C_Parts C_Sums t:=yq _ (yb _ (yb _ (yb _ yh)));refine U4 (fG (k:=kF t.s.L (x::rest) (p,q)) (Γ':=[some (.obj C_Parts pF [.obj C_Sums sF [t.s.g,Yd t.s.row,.lst (yT t.s.hs),.lst (yD t.s.br),chD t.s.L t.s.ch,.raw (.ref t.s.b),.raw (.ref t.s.c)],.lst (yD t.rs),.raw (.ref t.kb),.lst ((Y7 t.s.row.length).map Zg),.raw (.ref t.hd)]),some (Yd (x::rest)),some (.int (i:Int)),some (.int (j:Int)),some (Y4 (p,q))]) (Hv (PW3.t (dc (qI (uA hr.units (Y5 y6 rfl) (pq 4 rfl) (.inr rfl) ?_)) fun _=>(wU (PW3.t (eg (qI (fz (zy z.len rfl (pq 1 rfl)) yB)) fun _=>(bA (qI (G2 (k:=qv x) hr.units (Yr (d:=.str x) (pq 1 rfl) yB ?_) (zd (zd (pq 0 rfl) yZ.c yZ.n_sums rfl) y8.c y8.n_chains rfl))))))))) ?_) (ve (i:=0) (Zw qV) rfl (vO (yq _ yh) (Y6 (vO ms Q6) Q6))) ⟨fun hk=>?_,fun hk=>?_⟩)
 .exact sH
 .exact JX (j:=0) rfl
 .exact oY
 .obtain⟨s',hs'⟩:=ck hij;obtain⟨l1,l2,e,h1,h2⟩:=Zo hs';have h2:s'.1=(i,j):=of_decide_eq_true h2;have h1:∀ z∈l1,z.1≠(i,j):=fun z hz=>of_decide_eq_false (h1 z hz);have at1:atD (t.hs.map hsV) (kP (i,j))=some (.raw (.ref s'.2.1)):=by rw[K6,hs'];rfl
  have es:=el (erS s') (by rw[e,yk,yt];exact yF _ yh);have eb:s'.2.2.length<=n:=by have:=es.1;unfold erS at this;rwa [yd] at this
  have big:sizeLine=16777216:=rfl;refine pT (oF hr.units (aG hr.units (jT (a:=t.a) (d:=.raw (.ref t.hd)) (pq 0 rfl) (yq _ yh) yZ.c yZ.n_handed rfl ⟨t.hd,rfl,Yn (QO (yc (pq 2 rfl) (yc (pq 3 rfl) yr))) ⟨kP (i,j),t.hs.map hsV,.raw (.ref s'.2.1),rfl,yq _ (yb _ (yb _ yh)),at1,s'.2.1,rfl,⟨s'.2.2.map hbV,mP e⟩,Yn (pq 1 rfl) ⟨kBd (x::rest),sM.symm,ut (zW yr) fun c=>⟨s'.2.2.map hbV,_,(List.Perm.cons _ (iF e)).trans (List.Perm.swap ..),by rw[yd];lia,?_,?_⟩⟩⟩⟩)))
  .intro d0 hd0;rw[WO] at hd0;obtain⟨y,hy,rfl⟩:=Yk.mp hd0;obtain⟨m1,m2,em,g1,g2⟩:=Zo hy;have g2:y.1=x::rest:=of_decide_eq_true g2;have g1:∀ z∈m1,z.1≠x::rest:=fun z hz=>of_decide_eq_false (g1 z hz);have ey:y.2.2.length<=n:=es.2 (erB y) (by unfold erS;rw[em,yk,yt];exact yF _ yh);refine⟨y.2.1,y.2.2.map Y4,rfl,?_,Yn (pq 4 rfl) ⟨y.2.2.map Y4,((s'.2.1,Jz P w K s'.2.1 (s'.2.2.map hbV))::(c,YW K [])::(ug P w K C_Parts C_Sums t++m1.map fun x=>(x.2.1,YW K (x.2.2.map Y4))))++((m2.map fun x=>(x.2.1,YW K (x.2.2.map Y4)))++(omH P w K l1++omH P w K l2)),?_,by rw[yd];lia,?_⟩⟩
   .refine yb _ (yb _ (yF _ (yq _ ?_)));rw[em,yk,yt];exact yF _ yh
   .have eq:((s'.2.1,Jz P w K s'.2.1 (s'.2.2.map hbV))::(c,YW K [])::(ug P w K C_Parts C_Sums t++((s'.2.2.map fun x=>(x.2.1,YW K (x.2.2.map Y4)))++(omH P w K l1++omH P w K l2))))=((s'.2.1,Jz P w K s'.2.1 (s'.2.2.map hbV))::(c,YW K [])::(ug P w K C_Parts C_Sums t++m1.map fun x=>(x.2.1,YW K (x.2.2.map Y4))))++(y.2.1,YW K (y.2.2.map Y4))::((m2.map fun x=>(x.2.1,YW K (x.2.2.map Y4)))++(omH P w K l1++omH P w K l2)):=by
     rw[em];simp only[yk,yt,QX,YQ]
    exact eq▸JB
   .have hv:(l1++(s'.1,s'.2.1,m1++(y.1,y.2.1,y.2.2++[(p,q)])::m2)::l2).map hsV=t.hs.map hsV:=se e _ rfl rfl;refine y9 (y9 ⟨{t with hs:=l1++(s'.1,s'.2.1,m1++(y.1,y.2.1,y.2.2++[(p,q)])::m2)::l2},[(c,YW K [])],⟨rfl,fun b' i' j' p' q' e'=>?_⟩,?_⟩)
    .obtain⟨rfl,rfl,rfl,rfl,rfl⟩:=Uw e';exact⟨_,rfl,sQ e h1 h2 em g1 g2 hk,hv⟩
    .refine Cj.trans (List.Perm.append_right _ ?_);refine XH (s':=(s'.1,s'.2.1,m1++(y.1,y.2.1,y.2.2++[(p,q)])::m2)) rfl (Ah hv) ?_;unfold iY;rw[em];simp only[yk,yt,ji];exact List.Perm.refl _
  .intro hd0;rw[WO] at hd0;have g1:∀ z∈s'.2.2,z.1≠x::rest:=fun z hz e0=>by
    have:=zb.mp (Option.map_eq_none_iff.mp hd0) z hz;simp[e0] at this
   refine⟨c,[],rfl,yb _ yh,Yn (pq 4 rfl) ⟨[],_,JB (l₁:=[_]),by decide,?_⟩⟩;have hv:(l1++(s'.1,s'.2.1,s'.2.2++[(x::rest,c,[(p,q)])])::l2).map hsV=t.hs.map hsV:=se e _ rfl rfl;refine y9 (y9 ⟨{t with hs:=l1++(s'.1,s'.2.1,s'.2.2++[(x::rest,c,[(p,q)])])::l2},[],⟨rfl,fun b' i' j' p' q' e'=>?_⟩,?_⟩)
   .obtain⟨rfl,rfl,rfl,rfl,rfl⟩:=Uw e';exact⟨_,rfl,sZ e h1 h2 g1 hk,hv⟩
   .rw[yM];show List.Perm ((c,YW K [Y4 (p,q)])::(s'.2.1,Jz P w K s'.2.1 (s'.2.2.map hbV++[(kBd (x::rest),D.raw (.ref c))]))::(ug P w K C_Parts C_Sums t++((s'.2.2.map fun x=>(x.2.1,YW K (x.2.2.map Y4)))++(omH P w K l1++omH P w K l2)))) _;refine List.Perm.trans CN ?_;refine XH (s':=(s'.1,s'.2.1,s'.2.2++[(x::rest,c,[(p,q)])])) rfl (Ah hv) ?_;have e1:(s'.2.2++[(x::rest,c,[(p,q)])]).map hbV=s'.2.2.map hbV++[(kBd (x::rest),.raw (.ref c))]:=by rw[yk];rfl
    have e2:iY P w K (s'.1,s'.2.1,s'.2.2++[(x::rest,c,[(p,q)])])=(s'.2.1,Jz P w K s'.2.1 (s'.2.2.map hbV++[(kBd (x::rest),.raw (.ref c))]))::((s'.2.2.map fun x=>(x.2.1,YW K (x.2.2.map Y4)))++[(c,YW K [Y4 (p,q)])]):=by
     unfold iY;rw[e1,yk];rfl
    rw[e2]
 .refine y9 (y9 ⟨t,[],⟨rfl,fun b' i' j' p' q' e=>?_⟩,by rw[yM]⟩);obtain⟨rfl,rfl,rfl,rfl,rfl⟩:=Uw e;refine⟨t.hs,rfl,?_,rfl⟩;unfold j4;rw[hk,ye yV]
variable (P w K mg base C_Sums C_Parts) in
abbrev Az:Prop:=OkM P w K mg base CX0 36 C_Parts "hand_to_heads" ["self", "i", "j"] (spN K 3 ?H6 nU Bk)
theorem v9 (z:?AM)(yZ:?D4)(y8:?BM)(d:YZ K C_Parts "hand_to_heads" "Parts.hand_to_heads" qB ["self", "i", "j"])(YM:?Iz):?Pr:=by
 refine By d qR rfl fun f cdv A outer s H E hr t ds hC B=>?_;obtain⟨i,j,rfl,ok⟩:=hC;obtain⟨sp,hsp⟩:=ck ok.ij;obtain⟨l1,l2,e,_,_⟩:=Zo hsp;have at1:atD (t.hs.map hsV) (kP ?D)=some (.raw (.ref sp.2.1)):=by rw[K6,hsp];rfl
 have ms:?tY∈zQ P w K C_Parts C_Sums t:=yq _ ?Ds;have mb:=mP (P:=P) (w:=w) (K:=K) (Cp:=C_Parts) (Cs:=C_Sums) e;have hp:=fun h=>X4 (b:=[h]) hsp;refine QQ (i:=3) qR.nd rfl (.inl rfl) (aG hr.units (jT (a:=t.a) (d:=.raw (.ref t.hd)) (pq 0 rfl) ?CG yZ.c yZ.n_handed rfl ⟨t.hd,rfl,Yn (QO (yc (pq 1 rfl) (yc (pq 2 rfl) yr))) ⟨kP ?D,?M9,.raw (.ref sp.2.1),rfl,yq _ ?De,at1,?_⟩⟩));refine QQ (i:=4) qR.nd rfl (.inr rfl) (mL y8.c y8.n_chains (jT (a:=t.a) (d:=.raw (.ref t.s.a)) (pq 0 rfl) ?CG yZ.c yZ.n_sums rfl ⟨t.s.a,sF,_,?Ec,rfl,ms,rfl,?_⟩));refine QQ (i:=5) qR.nd rfl (.inr rfl) (cH fun l=>?_);have ll:=ok.ll;refine jF PassesOwn.never rfl (bw (pqc 4 rfl)) (fun k Γ Ω=>∃ x6,Γ=[some (.raw (.ref t.a)),some (.int (i:Int)),some (.int (j:Int)),some (.raw (.ref sp.2.1)),some ?Ec,some (.raw (.ref l)),x6]/\Ω=(l,oDk K ?wF ((?Cg).map fun h=>?C2))::zQ P w K C_Parts C_Sums t) ⟨_,rfl,rfl⟩ ?_ ?_
 .rintro k d Γ Ω hd' ⟨x6,rfl,rfl⟩;rw[←Vd] at hd';obtain⟨h,hh,rfl⟩:=je hd';have hk:k<t.s.L.length:=(?Gh).1;have hL:=yx hh;have nin:=sw ok.nd hh;have pr:=ok.pr h hL;refine⟨_,(Yl (i:=6) qR.nd rfl (.inr rfl)),?_⟩;refine cp (l:=l) (k:=qv h) hr.units (pqc 5 rfl) (pqc 6 rfl) (l8 (L:=?AN) (n:=1) YM ?A2 rfl (FM hr.units (Yn (pq 3 rfl) ⟨sp.2.1,rfl,⟨sp.2.2.map hbV,yb _ mb⟩,Yn (QO (yc (pqc 6 rfl) yr)) ⟨kBd [h],rfl,ut ?C1 fun c2=>⟨sp.2.2.map hbV,yb _ (yb _ mb),?_⟩⟩⟩)));have fin:W3 (cx0 P w K mg base ["self", "i", "j", "bodies", "chains", "firsts", "head"] "Parts.hand_to_heads" qB f cdv A outer s H E) B [] [some (.raw (.ref t.a)),some (.int (i:Int)),some (.int (j:Int)),some (.raw (.ref sp.2.1)),some ?Ec,some (.raw (.ref l)),some (.str h)] ((l,oDk K (pK ?wF (qv h)) (pA ?wF ((?Cg).map fun h=>?C2) (qv h) ?C2))::(c2,YW K [])::zQ P w K C_Parts C_Sums t) ⟨fun Γ Ω=>∃ x6,Γ=[some (.raw (.ref t.a)),some (.int (i:Int)),some (.int (j:Int)),some (.raw (.ref sp.2.1)),some ?Ec,some (.raw (.ref l)),x6]/\Ω=(l,oDk K ((t.s.L.take (k+1)).map qv) ((t.s.L.take (k+1)).map fun h=>?C2))::zQ P w K C_Parts C_Sums t,fun _ _=>?AC,fun _ _=>?AC,fun _ _=>?AC⟩:=by
   refine cK (Ω':=(l,oDk K (pK ?wF (qv h)) (pA ?wF ((?Cg).map fun h=>?C2) (qv h) ?C2))::zQ P w K C_Parts C_Sums t) (Ω5:=[(c2,YW K [])]) (List.Perm.cons _ (?Pt).symm) (y9 ⟨_,rfl,?_⟩);rw[EC nin,Fa nin,Yg hh,yk,yk];rfl
  have hpk:=hp h;have szl:sizeLine=16777216:=rfl;have lk:((t.s.L.take k).map qv).length<sizeLine:=by rw[yd,yH];lia
  have hard:uc false ((c2,YW K [])::(l,oDk K ?wF ((?Cg).map fun h=>?C2))::zQ P w K C_Parts C_Sums t):=qW vm (qW CM wX);rw[WO];cases hy:sp.2.2.find? (fun x=>decide (x.1=[h])) with
  |none=>
   rw[hy] at hpk;rw[hpk] at pr;exact⟨c2,[],?C2,rfl,yh,hard,pr,rfl,_,_,_,JB (l₁:=[_]),lk,fin⟩
  |some y=>
   rw[hy] at hpk;rw[hpk] at pr;exact⟨y.2.1,y.2.2.map Y4,?C2,rfl,yb _ (yb _ (Ev e (Yx hy))),hard,pr,rfl,_,_,_,JB (l₁:=[_]),lk,fin⟩
 .rintro Γ Ω ⟨x6,rfl,rfl⟩;rw[yd,yd,yI];refine bG (i:=5) rfl ?_;refine jF PassesOwn.never rfl (bw (pqc 4 rfl)) (fun k Γ Ω=>∃ x6,Γ=[some (.raw (.ref t.a)),some (.int (i:Int)),some (.int (j:Int)),some (.raw (.ref sp.2.1)),some ?Ec,some (.dk (t.s.L.map qv) (t.s.L.map fun h=>?C2)),x6]/\Ω=zQ P w K C_Parts C_Sums {t with kn:=(?Cg).foldl (fun k h=>?Hp) t.kn}) ⟨_,rfl,rfl⟩ ?_ ?_
  .rintro k d Γ Ω hd' ⟨x6,rfl,rfl⟩;rw[←Vd] at hd';obtain⟨h,hh,rfl⟩:=je hd';have hk:k<t.s.L.length:=(?Gh).1;have hL:=yx hh;have kl:=ok.kl;have pl:=bx (i:=i) (j:=j) (v:=fun h=>?Fd) (L:=?Cg) (kn:=t.kn);rw[yH] at pl;have en:(t.s.L.take (k+1)).foldl (fun k h=>?Hp) t.kn=v7 ((t.s.L.take k).foldl (fun k h=>?Hp) t.kn) h i j (byE t.s.L t.s.ch (t.hs.map erS) ?D h):=by rw[Yg hh,y7];rfl
   rw[en];generalize (?Cg).foldl (fun k h=>?Hp) t.kn=kn' at *;have szl:sizeLine=16777216:=rfl;refine⟨_,(Yl (i:=6) qR.nd rfl (.inr rfl)),?_⟩;refine gp (l:=t.kb) (k:=?D3) (d:=sh ?Fd) hr.units (jT (a:=t.a) (d:=.raw (.ref t.kb)) (pq 0 rfl) ?CG yZ.c yZ.n_known_beyonds rfl ⟨rfl,rfl⟩) (yc (pqc 6 rfl) (yc (pq 1 rfl) (yc (pq 2 rfl) yr))) (Yp (d:=sh ?Fd) YM ?A2 rfl (yc (PF3.p (Jb (SX:=yo qB) (XN:=["self", "i", "j", "bodies", "chains", "firsts", "head"]) (N:=["one", "chains", "firsts", "head"]) (nt:=1) (caps:=[4,5,6]) (pre:=(fun k=>((?Cg).map fun o=>(?I9,?HM)).map Y4)) ⟨rfl,?E,?E,?E,rfl,?E⟩ (bw (pqc 4 rfl)) ?_ ?_ ?_)) yr) ?_) (kt:=knK kn') (ds:=knV kn') ?zT (by unfold knK;rw[yd];lia) ?_
   .intro i' hi';rw[yd,yd,yH];rw[yd,yd] at hi';lia
   .rfl
   .intro c i' d hd'';rw[←Vd] at hd'';obtain⟨o,ho,rfl⟩:=je hd'';have hoL:=yx ho;refine⟨_,(Yl (i:=0) (show List.Nodup (α:=Str) ["one", "chains", "firsts", "head"] by decide +kernel) rfl (.inl rfl)),(Sub.set rfl),.inl ⟨Y4 (?I9,?HM),zU,(zC (QO (yc (wd (k:=qv o) (d:=sh ?I9) hr.units (pqc 2 rfl) (pq 0 rfl) ?_) (yc (wd (k:=qv h) (d:=sh ?HM) hr.units (wd (k:=qv o) (d:=.dk (t.s.L.map qv) (tb t.s.L.length fun b=>sh (t.s.ch (t.s.L.idxOf o) b))) hr.units (pqc 1 rfl) (pq 0 rfl) ?_) (pqc 3 rfl) ?_) yr))) ?_),?_⟩⟩
    .exact Dl ok.nd hoL
    .exact cN ok.nd hoL
    .exact cN ok.nd hL
    .rfl
    .dsimp only;rw[Yg ho,yk,yk];rfl
   .rw[yd,yd,yI];exact ok.sm h hL
   .rw[←Dc,←CK];exact kK ?zT (y9 ⟨_,rfl,rfl⟩)
  .rintro Γ Ω ⟨x6,rfl,rfl⟩;rw[yd,yd,yI];refine y9 ⟨{t with kn:=?JX},[],⟨rfl,fun i' j' e'=>?_⟩,by rw[yM];exact ?AV⟩;have e1:=(?qK).1;have e2:=(List.cons.inj (?qK).2).1;have z1:=D.int.inj e1;have z2:=D.int.inj e2;have:i'=i:=by lia
   have:j'=j:=by lia
   subst i' j';rfl
variable (P w K mg base C_Sums C_Parts) in
abbrev rq:Prop:=OkM P w K mg base CX0 5 C_Parts "hand_to_bodies" ["self", "i", "j"] (spN K 3 ?H6 gn pV)
theorem vN (z:?AM)(yZ:?D4)(y8:?BM)(d:YZ K C_Parts "hand_to_bodies" "Parts.hand_to_bodies" Qp ["self", "i", "j"])(vt:?Kw)(U1:?M1):?Pq:=by
 refine By d zN rfl fun f cdv A outer s H E hr t ds hC B=>?_;obtain⟨i,j,n,rfl,ij,b1,el,nl⟩:=hC;have ms:?tY∈zQ P w K C_Parts C_Sums t:=yq _ ?Ds;refine kE PassesOwn.never rfl (wS (mL y8.c y8.n_branches (jT (a:=t.a) (d:=.raw (.ref t.s.a)) ?A9 ?CG yZ.c yZ.n_sums rfl ⟨t.s.a,sF,_,.lst ?Il,rfl,ms,rfl,_,rfl,fun k Γ Ω=>∃ x3 hs',Γ=[some (.raw (.ref t.a)),some ?wK,some ?qE,x3]/\Ω=zQ P w K C_Parts C_Sums {t with hs:=hs'}/\hs'.map erS=Ql t.s.L (t.s.br.take k) t.kn i j (t.hs.map erS)/\hs'.map hsV=t.hs.map hsV,⟨_,t.hs,rfl,rfl,rfl,rfl⟩,?_,?_⟩)))
 .rintro k d Γ Ω hd' ⟨x3,hs',rfl,rfl,he,hv⟩;obtain⟨r,hr',rfl⟩:=QC hd';have hk:k<t.s.br.length:=(?Da).1;have el':zo (hs'.map erS) (n+k):=by
   rw[he];have:=U9 (L:=t.s.L) (kn:=t.kn) (i:=i) (j:=j) el (br:=t.s.br.take k);rw[yH,Nat.min_eq_left ?A] at this;exact this
  refine⟨_,(Yl (i:=3) zN.nd rfl ?A3),?_⟩;refine Zt (ZQ {t with hs:=hs'} [] (fs:=pF) (gs:=pgD {t with hs:=hs'}) U1 yZ.c ?A2 (Yn ?A9 ⟨rfl,?CG,YL (Yn ?DJ (YL (Yn ?AQ (YL (Yn ?AS (YL (Kz (L:=?AN) (d:=Y4 (JA t.kn r.1 i j,r.2.2)) (Γ':=[some (.obj C_Parts pF [.raw (.ref t.s.a),.lst ?Fb,knD t.kn,.lst ((?KP).map Zg),.raw ?Gw]),some ?wK,some ?qE,some (jS r)]) (QO (yc (K4 (d:=sh (JA t.kn r.1 i j)) vt yZ.c ?A2 ?A9 V2 (yc ?DJ ?MI) ⟨_,_,_,_,t.kn,r.1,i,j,rfl,rfl⟩) (yc ?DJ yr))) (ve (i:=0) (Zw qV) rfl (vO ?CG (Y6 jc (Y6 jc (Y6 (fQ (yq _ ?BC) Q6) Q6))))) wX rfl (qT yr ⟨by rw[yM],⟨r.2.1,i,j,n+k,JA t.kn r.1 i j,r.2.2,rfl,b1 r (yx hr'),iw hv ij,el',by lia⟩,rfl,?_⟩))))))))⟩) Zu);rintro t' d ⟨_,q⟩;obtain⟨hs2,rfl,q1,q2⟩:=q r.2.1 i j (JA t.kn r.1 i j) r.2.2 rfl;rw[yM];refine y9 ⟨_,hs2,rfl,rfl,?_,q2.trans hv⟩;rw[q1,Yg hr'];unfold Ql at he ⊢;rw[y7,←he];rfl
 .rintro Γ Ω ⟨x3,hs',rfl,rfl,he,hv⟩;rw[YF,yI] at he;refine y9 ⟨{t with hs:=hs'},[],⟨rfl,fun i' j' e'=>?_⟩,by rw[yM]⟩;have e1:=(?qK).1;have e2:=(List.cons.inj (?qK).2).1;have z1:=D.int.inj e1;have z2:=D.int.inj e2;have:i'=i:=by lia
  have:j'=j:=by lia
  subst i' j';exact⟨hs',rfl,he,hv⟩
end
section
variable {P:?A6}{w:?A5}{K:?A1}{mg:?G}{base:Heap}{C_Grammar C_Sums C_Parts:Addr}
variable (P w K mg base C_Sums C_Parts) in
abbrev Ax:Prop:=OkM P w K mg base CX0 47 C_Parts "hand_within_bodies" ["self", "i", "j"] (spN K 3 ?H6 lj og)
theorem ZG (z:?AM)(yZ:?D4)(y8:?BM)(d:YZ K C_Parts "hand_within_bodies" "Parts.hand_within_bodies" YN ["self", "i", "j"])(YM:?Iz)(U1:?M1)(B1:?L5)(zc:?Ha):?Ps:=by
 refine By d qE rfl fun f cdv A outer s H E hr t ds hC B=>?_;obtain⟨i,j,n,M,b,rfl,ok⟩:=hC;have hij:=ok.ij;have rl:t.s.row.length<=5:=ok.gs.rl;have jr:=ok.jr;obtain⟨sp,hsp⟩:=ck (ok.sp i j ?AH hij ?AH);obtain⟨l1,l2,e,_,_⟩:=Zo hsp;have at1:atD (t.hs.map hsV) (kP ?D)=some (.raw (.ref sp.2.1)):=by rw[K6,hsp];rfl
 have mb:=mP (P:=P) (w:=w) (K:=K) (Cp:=C_Parts) (Cs:=C_Sums) e;have es:=ok.el (erS sp) (by rw[e,yk,yt];exact yF _ yh);have eb:sp.2.2.length<=n:=by have:=es.1;unfold erS at this;rwa [yd] at this
 have nl:=ok.nl;have kl:=ok.kl;have lbe:=C5 hsp;have wa0:WaOk M n t.s.kw.length (t.hs.map erS) ?D ?jW:=⟨ok.el,ok.gs.kw,yg _,rfl⟩
 have lg2:∀ x∈jC (t.hs.map erS) ?D,2<=x.length/\x.length<=4:=fun x hx=>⟨aY hx,(ok.lg x hx).1⟩
 have wal:∀ k,WaOk M (n+8*k) (t.s.kw.length+5324*k) ?Af ?D (((?FE).take k).foldl (ZO t.s.L t.s.hs t.s.row t.s.kn i j fun b=>?C6) (?Af,?ER)):=fun k=>by
  have:=wa0.bodies (L:=t.s.L) (hs:=t.s.hs) (row:=t.s.row) ok.gs.d ok.gs.kn ?A (tot:=fun b=>?C6) (bs:=(?FE).take k) fun x hx=>lg2 x (YO hx);rw[yH] at this;exact⟨this.el.up ?A,this.kw,yU this.kl ?A,this.fd⟩
 have fin:ZU t.s.L t.s.hs t.s.row t.s.kn i j ?jW=(jC (t.hs.map erS) ?D).foldl (ZO t.s.L t.s.hs t.s.row t.s.kn i j fun b=>?C6) ?jW:=rfl;refine QQ (i:=3) qE.nd rfl (.inl rfl) (aG hr.units (jT (a:=t.a) (d:=.raw (.ref t.hd)) (pq 0 rfl) ?CG yZ.c yZ.n_handed rfl ⟨t.hd,rfl,Yn (QO (yc (pq 1 rfl) (yc (pq 2 rfl) yr))) ⟨kP ?D,?M9,.raw (.ref sp.2.1),rfl,yq _ ?De,at1,?_⟩⟩));refine kE PassesOwn.never rfl (wS (p9 (l:=sp.2.1) (kvs:=sp.2.2.map hbV) (d:=.lst (vf sp.2.2)) mb (fun B' hM kn=>CA (SX:=yo YN) (XN:=["self", "i", "j", "bodies", "body", "total", "middle"]) (N:=["known"]) (nt:=1) (caps:=[]) ⟨rfl,?E,?E,?E,rfl,?E⟩ (Dr kn (pq 3 rfl) ⟨fun k=>vf (sp.2.2.take k),fun k _=>?_,rfl,?_,?_⟩)) ?_ ⟨_,rfl,fun k Γ Ω=>∃ hs' x4 x5 x6,Γ=[some (.raw (.ref t.a)),some (.int (i:Int)),some (.int (j:Int)),some (.raw (.ref sp.2.1)),x4,x5,x6]/\Ω=zQ P w K C_Parts C_Sums {t with hs:=hs',s:={t.s with kw:=(((?FE).take k).foldl (ZO t.s.L t.s.hs t.s.row t.s.kn i j fun b=>?C6) (?Af,?ER)).2}}/\hs'.map erS=(((jC (t.hs.map erS) ?D).take k).foldl (ZO t.s.L t.s.hs t.s.row t.s.kn i j fun b=>?C6) ?jW).1/\hs'.map hsV=t.hs.map hsV,⟨t.hs,_,_,_,rfl,rfl,rfl,rfl⟩,?_,?_⟩))
 .have:=o8 (bs:=sp.2.2.take k);rw[yH] at this;have szl:sizeLine=16777216:=rfl;show(vf (sp.2.2.take k)).length<sizeLine;lia
 .intro c i' d hd';rw[U8,yz] at hd';obtain⟨x,hx,rfl⟩:=Yk.mp hd'
  -- (QH (PF3.p (Jb (SX:=yo YN) (XN:=["self", "i", "j", "bodies", "body", "total", "middle"]) (N:=["known"]) (nt:=1) (caps:=[]) (pre:=_) ⟨rfl,?E,?E,?E,rfl,?E⟩ (QH (pq 3 rfl)) ?_ ?_ ?_)))
  by_cases q:1<x.1.length
  .refine⟨_,(Yl (i:=0) (show List.Nodup (α:=Str) ["known"] by decide +kernel) rfl (.inl rfl)),(Sub.set rfl),.inl ⟨Yd x.1,(mV (qI (fz (zy z.len rfl (pq 0 rfl)) yB)) ?_),(pq 0 rfl),?_⟩⟩
   .exact yL ?qA
   .dsimp only;rw[Yg hx,pO q]
  .refine⟨_,(Yl (i:=0) (show List.Nodup (α:=Str) ["known"] by decide +kernel) rfl (.inl rfl)),(Sub.set rfl),.inr ⟨(mV (qI (fz (zy z.len rfl (pq 0 rfl)) yB)) ?_),?_⟩⟩
   .exact yA ?qA
   .dsimp only;rw[Yg hx,tK q]
 .rw[U8,yd];show D.lst (vf (sp.2.2.take sp.2.2.length))=_;rw[yI]
 .show(true&&zB true (vf sp.2.2))=true;rw[Bool.true_and];exact KY
 .rintro k d Γ Ω hd' ⟨hs',x4,x5,x6,rfl,rfl,he,hv⟩;rw[lbe] at hd';obtain⟨bd,hb,rfl⟩:=Vq hd';have hbm:=yx hb;have hk:k<(jC (t.hs.map erS) ?D).length:=(yi.mp hb).1;have wk:=wal k;have hnx:((jC (t.hs.map erS) ?D).take (k+1)).foldl (ZO t.s.L t.s.hs t.s.row t.s.kn i j fun b=>?C6) ?jW=ZO t.s.L t.s.hs t.s.row t.s.kn i j (fun b=>?C6) (((jC (t.hs.map erS) ?D).take k).foldl (ZO t.s.L t.s.hs t.s.row t.s.kn i j fun b=>?C6) ?jW) bd:=by rw[Yg hb,y7];rfl
  clear wal
  generalize ((?FE).take k).foldl (ZO t.s.L t.s.hs t.s.row t.s.kn i j fun b=>?C6) (?Af,?ER)=acc at *;obtain⟨b2,b4⟩:=lg2 bd hbm;obtain⟨s',y,m1,m2,e2,ea,ym,at2,yp⟩:=DA (b:=bd) hv hsp (by rw[he];exact wk.fd) hbm;have mb':=mP (P:=P) (w:=w) (K:=K) (Cp:=C_Parts) (Cs:=C_Sums) (t:={t with hs:=hs',s:={t.s with kw:=acc.2}}) e2;have my:=Ev (P:=P) (w:=w) (K:=K) (Cp:=C_Parts) (Cs:=C_Sums) (t:={t with hs:=hs',s:={t.s with kw:=acc.2}}) e2 ym;rw[ea] at mb';have sop:=(ok.lg bd hbm).2;rw[←yp] at sop;refine⟨_,(Yl (i:=4) qE.nd rfl (.inl rfl)),?_⟩;refine QQ (i:=5) qE.nd rfl (.inl rfl) (l8 (L:=?AN) (n:=1) YM ?A2 rfl (aG hr.units (Yn (pq 3 rfl) ⟨sp.2.1,rfl,Yn (pq 4 rfl) ⟨kBd bd,s'.2.2.map hbV,.raw (.ref y.2.1),sM.symm,mb',at2,y.2.1,y.2.2.map Y4,sh (ju y.2.2),rfl,my,wX,sop,rfl,?_⟩⟩)));obtain⟨x0,y0,rest,rfl⟩:∃ x y rest,bd=x::y::rest:=by
   match bd,b2 with
   |x::y::rest,_=>exact⟨x,y,rest,rfl⟩
  rw[yp];have hbe:ZO t.s.L t.s.hs t.s.row t.s.kn i j (fun b=>?C6) acc (x0::y0::rest)=(List.range (nP (x0::y0::rest).length i j)).foldl (kg t.s.L t.s.hs t.s.row t.s.kn (x0::y0::rest) (ju (qY (t.hs.map erS) ?D (x0::y0::rest))) i j) acc:=rfl;rw[hbe] at hnx
  clear hbe
  generalize ju (qY ?Af ?D (x0::y0::rest))=tot at *;have wm:=fun q hq=>wk.mid (L:=t.s.L) (hs:=t.s.hs) (row:=t.s.row) ok.gs.d ok.gs.kn ?A b2 b4 (tot:=tot) q hq;have np:nP (x0::y0::rest).length i j<=4:=by unfold nP;lia
  simp only[yw] at b4;refine jF PassesOwn.never rfl (xC (n:=nP (x0::y0::rest).length i j) (lo:=i+1) z.range rfl (zf (pq 1 rfl) yB) (zf (m7 (pq 2 rfl) (zy z.len rfl (pq 4 rfl))) yB) ?_ ?_ ?_) (fun q Γ Ω=>∃ hs' x6,Γ=[some (.raw (.ref t.a)),some (.int (i:Int)),some (.int (j:Int)),some (.raw (.ref sp.2.1)),some (Yd (x0::y0::rest)),some (sh tot),x6]/\Ω=zQ P w K C_Parts C_Sums {t with hs:=hs',s:={t.s with kw:=((?Dy).foldl ?uJ acc).2}}/\hs'.map erS=((?Dy).foldl ?uJ acc).1/\hs'.map hsV=t.hs.map hsV) ?_ ?_ ?_
  .push_cast;lia
  .rw[yd];unfold nP;simp only[yw];lia
  .rw[yd];simp only[yw];lia
  .exact⟨hs',_,rfl,rfl,he,hv⟩
  .rintro q d Γ Ω hd ⟨hs2,x6',rfl,rfl,he2,hv2⟩;obtain⟨hq,rfl⟩:=zu hd;have wq:=wm q ?A;have hm:i+1+q+1<=j:=by unfold nP at hq;simp only[yw] at hq;lia
   have hnx:(List.range (q+1)).foldl (kg t.s.L t.s.hs t.s.row t.s.kn (x0::y0::rest) tot i j) acc=kg t.s.L t.s.hs t.s.row t.s.kn (x0::y0::rest) tot i j ((List.range q).foldl (kg t.s.L t.s.hs t.s.row t.s.kn (x0::y0::rest) tot i j) acc) q:=by rw[qw,y7];rfl
   clear wm
   generalize (?Dy).foldl ?uJ acc=c at *;have wkl:=wq.kl;have ms:∀ {u:PG},(u.s.a,zi K C_Sums sF [u.s.g,Yd u.s.row,.lst (yT u.s.hs),.lst (yD u.s.br),chD u.s.L u.s.ch,.raw (.ref u.s.b),.raw (.ref u.s.c)])∈zQ P w K C_Parts C_Sums u:=yq _ ?Ds;have wv:kg t.s.L t.s.hs t.s.row t.s.kn (x0::y0::rest) tot i j c q=(j4 t.s.L (j4 t.s.L c.1 i (i+1+q) [x0] (tot,(?uT).1)) (i+1+q) j (y0::rest) (tot,?kJ),(?uT).2):=rfl;have wG:oj 4 {t.s with kw:=c.2} [.raw (.ref t.s.a),Yd (y0::rest),.int ((i+1+q:Nat):Int),.int (j:Int)] {t.s with kw:=(?uT).2} (sh (wBm t.s.hs t.s.row t.s.kn (y0::rest) (i+1+q) j c.2).1):=⟨y0::rest,i+1+q,j,M,b,rfl,rfl,rfl,by simp,by simp only[yw];lia,?B,?A,jr,⟨ok.gs.d,ok.gs.db,ok.gs.bl,ok.gs.rl,ok.gs.kn,wq.kw⟩,by show c.2.length+4*20000<=16000000;lia⟩
   generalize wBm t.s.hs t.s.row t.s.kn (y0::rest) (i+1+q) j c.2=wr at *;refine⟨_,(Yl (i:=6) qE.nd rfl (.inl rfl)),?_⟩;refine Zt (ZQ {t with hs:=hs2,s:={t.s with kw:=wr.2}} [] (fs:=pF) (gs:=pgD t) U1 yZ.c ?A2 (Yn (pq 0 rfl) ⟨rfl,?CG,
    YL (Yn (zC (d:=Yd [x0]) (uM (pq 4 rfl) VL (VA yB) ?_) ?_) (
    YL (Yn (pq 1 rfl) (
    YL (Yn (pq 6 rfl) (
    YL (ax (
     YL (Yn (pq 5 rfl) (
     YL (ft {t.s with kw:=c.2} {t.s with kw:=wr.2} (sh wr.1) ((t.a,zi K C_Parts pF (pgD t))::(t.kb,?H2)::(t.hd,Jz P w K t.hd (hs2.map hsV))::omH P w K hs2) (fs:=sF) (gs:=[t.s.g,Yd t.s.row,.lst ?Lq,.lst ?Il,chD t.s.L t.s.ch,.raw (.ref t.s.b),.raw (.ref t.s.c)]) B1 y8.c hr rfl (jT (a:=t.a) (d:=.raw (.ref t.s.a)) (pq 0 rfl) ?CG yZ.c yZ.n_sums rfl ⟨rfl,ms,qT (yc (zC (d:=Yd (y0::rest)) (uM (pq 4 rfl) (VA yB) VL ?_) ?_) (yc (pq 6 rfl) (yc (pq 2 rfl) yr))) ⟨BA,wG,rfl,qT yr ⟨?_,qT yr ⟨?_,⟨[x0],i,i+1+q,n+8*k+2*q,tot,wr.1,rfl,yg _,iw hv2 (ok.sp i (i+1+q) ?AH ?A ?A),by rw[he2];exact wq.el,?A⟩,rfl,?_⟩⟩⟩⟩) jp)))))))))))⟩) Zu)
   .rintro⟨_,h1⟩;simp[HT.sIx] at h1
   .exact congrArg D.tup HZ
   .rintro⟨h1,_⟩;simp[HT.sIx] at h1
   .exact ?KY
   .show 2<=sizeLine;decide
   .rw[yM];exact BA.symm
   rintro t' d ⟨_,g⟩;obtain⟨hs3,rfl,g1,g2⟩:=g [x0] i (i+1+q) tot wr.1 rfl;rw[yM];have he3:hs3.map erS=j4 t.s.L c.1 i (i+1+q) [x0] (tot,wr.1):=by rw[g1];show j4 t.s.L (hs2.map erS) _ _ _ _=_;rw[he2]
   have hv3:=g2.trans hv2;refine Zt (ZQ {t with hs:=hs3,s:={t.s with kw:=wr.2}} [] (fs:=pF) (gs:=pgD t) U1 yZ.c ?A2 (Yn (pq 0 rfl) ⟨rfl,?CG,
    YL (Yn (zC (d:=Yd (y0::rest)) (uM (pq 4 rfl) (VA yB) VL ?_) ?_) (
    YL (Yn (pq 6 rfl) (
    YL (Yn (pq 2 rfl) (
    YL (Kz (L:=?AN) (d:=Y4 (tot,?kJ)) (Γ':=[some (.obj C_Parts pF [sO C_Sums t.s.g (Yd t.s.row) (.lst ?Lq) (.lst ?Il) ?Ec (knD t.s.kn) (.raw (.ref t.s.c)),.lst ?Fb,.raw (.ref t.kb),.lst ((?KP).map Zg),.raw (.ref t.hd)]),some (.int (i:Int)),some (.int (j:Int)),some (.raw (.ref sp.2.1)),some (Yd (x0::y0::rest)),some (sh tot),some (.int ((i+1+q:Nat):Int))]) (QO (yc (pq 5 rfl) (yc (K4 (d:=sh ?kJ) zc y8.c ?A2 (zd (pq 0 rfl) yZ.c yZ.n_sums rfl) vP (yc (Yr (d:=.str x0) (pq 4 rfl) yB (JX (j:=0) rfl)) (yc (pq 1 rfl) (yc (pq 6 rfl) yr))) ⟨_,_,_,_,t.s.row,t.s.hs,t.s.kn,x0,i,i+1+q,rfl,rfl,?A⟩) yr))) (ve (i:=0) (Zw qV) rfl (vO ?CG (Y6 (vO ms (Y6 jc (Y6 jc (Y6 jc (Y6 jc (Y6 jc (Y6 (fQ (yq _ (yb _ ?Ds)) Q6) Q6))))))) Q6))) wX rfl (qT yr ⟨by rw[yM],⟨y0::rest,i+1+q,j,n+8*k+2*q+1,tot,woS t.s.hs t.s.row t.s.kn i (i+1+q) x0,rfl,by simp,iw hv3 (ok.sp (i+1+q) j (by lia) (by lia) (yg _)),by rw[he3];exact v6 wq.el,?A⟩,rfl,?_⟩))))))))⟩) Zu)
   .rintro⟨h1,_⟩;simp[HT.sIx] at h1
   .exact ?KY
   rintro t' d ⟨_,g⟩;obtain⟨hs4,rfl,g3,g4⟩:=g (y0::rest) (i+1+q) j tot ?kJ rfl;rw[yM];refine y9 ⟨hs4,_,rfl,?_,?_,g4.trans hv3⟩
   .rw[hnx,wv]
   .rw[hnx,wv,g3];show j4 t.s.L ?MB _ _ _ _=_;rw[he3]
  .rintro Γ Ω ⟨hs2,x6',rfl,rfl,he2,hv2⟩;rw[jm] at *;refine y9 ⟨hs2,_,_,_,rfl,?_,?_,hv2⟩
   .rw[hnx]
   .rw[hnx];exact he2
 .rintro Γ Ω ⟨hs',x4,x5,x6,rfl,rfl,he,hv⟩;rw[lbe,yd,yI,←fin] at *;refine y9 ⟨_,[],⟨rfl,fun i' j' e'=>?_⟩,by rw[yM]⟩;have e1:=(?qK).1;have e2:=(List.cons.inj (?qK).2).1;have z1:=D.int.inj e1;have z2:=D.int.inj e2;have:i'=i:=by lia
  have:j'=j:=by lia
  subst i' j';exact⟨hs',rfl,he,hv⟩
end
section
variable {P:?A6}{w:?A5}{K:?A1}{mg:?G}{base:Heap}{C_Grammar C_Sums C_Parts:Addr}
variable (P w K mg base C_Grammar C_Sums) in
abbrev AE:Prop:=OkI P w K mg base CX0 49 "Sums" C_Sums ["self", "grammar", "row"] (spN K 3 (Gu P w K C_Sums) (Eu C_Grammar) (Hq C_Grammar))
theorem BN (z:?AM)(y8:?BM)(yP:?BL)(d:vG K mg "Sums" C_Sums "Sums.__init__" Qu ["self", "grammar", "row"])(vB:?JO)(dg:?OZ)(Jj:?IB)(KC:AS P w K mg base)(f9:AR P w K mg base)(kY:?ME)(Li:?Or):?Pp:=by
 refine GY d jU rfl fun f cdv A outer s H E hr t ds hC B=>?_;obtain⟨a,st,rs,row,M,b,s',rfl,rfl,so⟩:=hC;have hrl:=so.rl;have lrl:(zJ (yJ rs) (yQ rs) rs).length<=rs.length:=Yv _ _;have brl:(zj rs).length<=30:=by have:(zj rs).length<=_:=Yv _ _;lia
 have ssl:(kh rs).length<=30:=by have:(kh rs).length<=_:=Yv _ _;lia
 have brm:∀ r∈zj rs,r∈rs:=fun r hr'=>(Ys.mp (Ys.mp hr').1).1;have ssm:∀ r∈kh rs,r∈rs:=fun r hr'=>(Ys.mp (Ys.mp hr').1).1;refine Y2 (i:=3) jU.nd rfl (.inr rfl) (PF3.p (JR (ds:=yT ?AA) vB yP.c ?A2 (pq 1 rfl) V1 ?_)) ?_
 .exact⟨st,rs,rfl,rfl⟩
 refine Y2 (i:=4) jU.nd rfl (.inl rfl) (Yp (d:=.lst (yD ?BZ)) dg ?A2 rfl (yc (pq 1 rfl) yr) ?_) ?_
 .exact⟨st,rs,rfl,rfl,so.rl,so.body⟩
 refine zh (a:=a) (pq 0 rfl) y8.c y8.n_grammar (Yn (pq 1 rfl) ⟨[],[],[],?AV,by simp,by decide,?_⟩);refine zh (a:=a) (pq 0 rfl) y8.c y8.n_row (Yn (pq 2 rfl) ⟨_,_,[],?AV,?B,?B,?_⟩);refine zh (a:=a) (pq 0 rfl) y8.c y8.n_known_heads (Yn (PF3.p (JR (ds:=?D8) Jj yP.c ?A2 (pq 1 rfl) Zl ?_)) ⟨_,_,[],?AV,?B,?B,?_⟩)
 .exact⟨st,rs,rfl,rfl⟩
 refine zh (a:=a) (pq 0 rfl) y8.c y8.n_branches (Yn (PF3.p (Jb (SX:=yo Qu) (XN:=["self", "grammar", "row", "live", "rules", "i", "j"]) (N:=["rule", "live"]) (nt:=1) (caps:=[3]) (pre:=(fun i=>yD (((?BZ).take i).filter fun r=>!jt ?AA r))) ⟨rfl,?E,?E,?E,rfl,?E⟩ (QH (pq 4 rfl)) ?_ ?_ ?_)) ⟨_,_,[],?AV,?B,?B,?_⟩)
 .intro i hi;rw[YF,sizeLine_eq];have:=Yv (fun r:yC=>!jt ?AA r) ((?BZ).take i);rw[yH] at this;lia
 .rfl
 .intro c i d hd;obtain⟨r,hr',rfl⟩:=QC hd;cases q:jt (yQ rs) r with
  |false=>
   refine⟨_,(Yl (i:=0) ?vX rfl (.inl rfl)),(Sub.set rfl),.inl ⟨jS r,(mV (eA (vF (Yp (d:=.bl false) KC ?A2 rfl (yc (pq 0 rfl) (yc (pqc 1 rfl) yr)) ?_))) ?_),(pq 0 rfl),?_⟩⟩
   .exact⟨r,_,rfl,by rw[q]⟩
   .rfl
   .show yD (((?BZ).take (i+1)).filter fun r=>!jt ?AA r)=_;rw[Yg hr',qu,YD (p:=fun r:yC=>!jt ?AA r) (by rw[q];rfl)];unfold yD;rw[yk];rfl
  |true=>
   refine⟨_,(Yl (i:=0) ?vX rfl (.inl rfl)),(Sub.set rfl),.inr ⟨(mV (eA (vF (Yp (d:=.bl true) KC ?A2 rfl (yc (pq 0 rfl) (yc (pqc 1 rfl) yr)) ?_))) ?_),?_⟩⟩
   .exact⟨r,_,rfl,by rw[q]⟩
   .rfl
   .show yD (((?BZ).take (i+1)).filter fun r=>!jt ?AA r)=_;rw[Yg hr',qu,YE (p:=fun r:yC=>!jt ?AA r) ?vJ];simp
 rw[YF,yI];refine zh (a:=a) (pq 0 rfl) y8.c y8.n_chains (Yn (Yp (d:=chD ?AA ?B1) f9 ?A2 rfl (yc (pqc 3 rfl) (yc (PF3.p (Jb (SX:=yo Qu) (XN:=["self", "grammar", "row", "live", "rules", "i", "j"]) (N:=["rule", "live"]) (nt:=1) (caps:=[3]) (pre:=(fun i=>yD (((?BZ).take i).filter ?Cp))) ⟨rfl,?E,?E,?E,rfl,?E⟩ (QH (pq 4 rfl)) ?_ ?_ ?_)) yr)) ?_) ⟨_,_,[],?AV,?B,?B,?_⟩)
 .intro i hi;rw[YF,sizeLine_eq];have:=Yv ?Cp ((?BZ).take i);rw[yH] at this;lia
 .rfl
 .intro c i d hd;obtain⟨r,hr',rfl⟩:=QC hd;cases q:jt (yQ rs) r with
  |true=>
   refine⟨_,(Yl (i:=0) ?vX rfl (.inl rfl)),(Sub.set rfl),.inl ⟨jS r,(K8 (vF (Yp (d:=.bl true) KC ?A2 rfl (yc (pq 0 rfl) (yc (pqc 1 rfl) yr)) ?_))),(pq 0 rfl),?_⟩⟩
   .exact⟨r,_,rfl,by rw[q]⟩
   .show yD (((?BZ).take (i+1)).filter ?Cp)=_;rw[Yg hr',qu,YD (p:=?Cp) q];unfold yD;rw[yk];rfl
  |false=>
   refine⟨_,(Yl (i:=0) ?vX rfl (.inl rfl)),(Sub.set rfl),.inr ⟨(K8 (vF (Yp (d:=.bl false) KC ?A2 rfl (yc (pq 0 rfl) (yc (pqc 1 rfl) yr)) ?_))),?_⟩⟩
   .exact⟨r,_,rfl,by rw[q]⟩
   .show yD (((?BZ).take (i+1)).filter ?Cp)=_;rw[Yg hr',qu,YE (p:=?Cp) ?vJ];simp
 .rw[YF,yI];refine⟨?AA,?D7,s',rfl,rfl,so.par.nd,yU so.par.ll ?B,ssl,fun r hr'=>?_,so.keys,fun r hr'=>so.sz r (ssm r hr'),so.s1,so.sk,so.piv⟩;have:=(Ys.mp hr').2;unfold jt at this;split at this
  .rename_i x hx;exact⟨x,hx⟩
  .cases this
 refine zh (a:=a) (pq 0 rfl) y8.c y8.n_known_sums (hV fun b'=>⟨_,_,[(b',oDt K [] [])],?zT,?B,?B,?_⟩);refine zh (a:=a) (pq 0 rfl) y8.c y8.n_known_worths (bX fun c=>⟨_,_,[(b',oDt K [] []),(c,Jz P w K c [])],(?zT).trans ?Pv,?B,?B,?_⟩);have key:=Vt so;have l15:=ZZ so.par.rl;have wl:=so.par.rl;refine jF PassesOwn.never rfl (QH (Yp (d:=.lst ((?AT).map Zg)) kY ?A2 rfl (yc (pq 2 rfl) yr) ?_)) (fun k Γ Ω=>∃ x5 x6,Γ=[some (.raw (.ref a)),some ?BX,some ?CH,some (.lst (yT ?AA)),some (.lst (yD ?BZ)),x5,x6]/\Ω=omG P w K C_Sums ⟨a,b',c,?BX,row,?AJ,?Ao,?AA,?B1,(?B6).1,(?B6).2⟩) ⟨_,_,rfl,rfl⟩ ?_ ?_
 .exact⟨row,rfl,rfl,?A⟩
 .rintro k d Γ Ω hd ⟨x5,x6,rfl,rfl⟩;obtain⟨p,hp,rfl⟩:=Vq hd;have hk:k<(Y7 row.length).length:=(?ET).1;have hpi:=vK (yx hp);refine⟨_,(vo rfl (qh (Yl (i:=5) jU.nd rfl (.inl rfl)) (qh (Yl (i:=6) jU.nd rfl (.inl rfl)) zD))),?_⟩;refine Zt (uU (t:=⟨a,b',c,?BX,row,?AJ,?Ao,?AA,?B1,(?B6).1,(?B6).2⟩) (t':=⟨a,b',c,?BX,row,?AJ,?Ao,?AA,?B1,(ZP rs row (k+1)).1,(ZP rs row (k+1)).2⟩) (d:=.non) (Ω4:=[]) Li y8.c ?A2 (pq 0 rfl) yh xT (yc (pq 5 rfl) (yc (pq 6 rfl) yr)) rfl ?AV ?_ ?_)
  .exact⟨p.1,p.2,M,b,k,rfl,by rw[v5 hp],rfl,hpi.1,hpi.2,so.par,key k (by lia),by lia⟩
  .exact y9 ⟨_,_,rfl,rfl⟩
 .rintro Γ Ω ⟨x5,x6,rfl,rfl⟩;rw[yd];refine y9 ⟨.inr (gS C_Grammar st rs row a b' c ?Ga),[],⟨rfl,fun a' st' rs' row' e=>?_⟩,by rw[yM];exact ?AV⟩;obtain⟨rfl,rfl,rfl,rfl⟩:=md e;exact⟨b',c,rfl⟩
end
section
variable {P:?A6}{w:?A5}{K:?A1}{mg:?G}{base:Heap}{C_Grammar C_Sums C_Parts:Addr}
variable (P w K mg base C_Grammar C_Sums C_Parts) in
abbrev gP:Prop:=OkI P w K mg base CX0 51 "Parts" C_Parts ["self", "grammar", "row"] (spN K 3 (IW P w K C_Parts C_Sums C_Grammar) (Ft C_Grammar) (G7 C_Grammar))
theorem oS (z:?AM)(yZ:?D4)(y8:?BM)(yP:?BL)(y6:?V)(Zd:?wJ)(d:vG K mg "Parts" C_Parts "Parts.__init__" jW ["self", "grammar", "row"])(lD:?Pp)(Ze:?IP)(qP:?F8)(Q5:?GS)(kY:?ME)(U1:?M1)(DV:?Pr)(BY:?Pq)(B2:?Ps):?LT:=by
 refine GY d Js rfl fun f cdv A outer s H E hr t ds hC B=>?_;obtain⟨a,st,rs,row,M,b,s',rfl,rfl,o⟩:=hC;have rl:row.length<=5:=o.s.par.rl;have r1:=o.r1;refine zh (a:=a) ?A9 yZ.c yZ.n_sums (cA .inl lD hr rfl ?MI (fun _=>rfl) (fun sa=>⟨sa,st,rs,row,M,b,s',rfl,rfl,o.s⟩) fun sa t' d h=>?_);obtain⟨rfl,h⟩:=h;obtain⟨sb,sc,rfl⟩:=h sa st rs row rfl;refine⟨rfl,[],[],?Pu,?Pt,by simp,by decide,?_⟩;refine U4 (fG (Γ':=[some (.obj C_Parts ["sums"] [sO C_Sums ?BX ?CH (.lst ?D8) (.lst (yD ?Ao)) (chD ?AA ?B1) (knD ?As) (.raw (.ref sc))]),some ?BX,some ?CH,none,none,none]) (qI (Xq hr.units (Kv (d:=sh ?MF) Ze y8.c ?A2 (zd ?A9 yZ.c yZ.n_sums rfl) vR ?_) ?Fc Ja Jg)) (ve (i:=0) (Zw qV) rfl (vO yh (Y6 (vO ?BC (Y6 jc (Y6 jc (Y6 jc ?Po)))) Q6))) ⟨fun hk=>?_,fun _=>?_⟩)
 .exact⟨st,rs,row,_,_,_,_,?As,rfl,rfl⟩
 .rw[QL] at hk;exact absurd (of_decide_eq_true hk) o.w0
 refine ?B2;refine zh (a:=a) ?A9 yZ.c yZ.n_known_rules (Yn (PF3.p (JR (ds:=?AO) qP yP.c ?A2 ?AQ jg ?FP)) ⟨_,_,?Pu,?AV,?B,?B,?_⟩);refine zh (a:=a) ?A9 yZ.c yZ.n_known_beyonds (hV fun kb=>⟨_,_,(kb,oDt K [] [])::omG P w K C_Sums ?DA,?zT,?B,?B,?_⟩);refine zh (a:=a) ?A9 yZ.c yZ.n_spans (Yn (Yp (d:=.lst ((?AT).map Zg)) kY ?A2 rfl ?FY ?_) ⟨_,_,(kb,oDt K [] [])::omG P w K C_Sums ?DA,?AV,?B,?B,?_⟩)
 .exact⟨row,rfl,rfl,?A⟩
 refine zh (a:=a) ?A9 yZ.c yZ.n_handed (bX fun hd=>⟨_,_,(hd,Jz P w K hd [])::(kb,oDt K [] [])::omG P w K C_Sums ?DA,?zT,?B,?B,?_⟩);refine kK (Ω':=zQ P w K C_Parts C_Sums ⟨a,kb,hd,?DA,?yL,[],rs⟩) ?_ ?_
 .show((a,_)::(kb,_)::(hd,_)::(omG P w K C_Sums ?DA++[])).Perm _;rw[yM];exact ?Pv
 refine kE PassesOwn.never rfl (wS (jT (a:=a) (d:=.lst ((?AT).map Zg)) ?A9 yh yZ.c yZ.n_spans rfl ⟨_,rfl,fun k Γ Ω=>∃ x3 hs',Γ=[some (.raw (.ref a)),some ?BX,some ?CH,x3,none,none]/\Ω=zQ P w K C_Parts C_Sums ⟨a,kb,hd,gS C_Grammar st rs row sa sb sc (kwG rs row),?yL,hs',rs⟩/\hs'.map erS=((Y7 row.length).take k).map fun p=>((p,[]):Es),⟨_,[],rfl,rfl,rfl⟩,?_,?_⟩))
 .rintro k d Γ Ω hd' ⟨x3,hs',rfl,rfl,he⟩;obtain⟨p,hp,rfl⟩:=Vq hd';have hk:k<(Y7 row.length).length:=(?ET).1;have l15:=ZZ rl;have hn:=Ew rl he hp;have hl:hs'.length<=15:=by
   have:=congrArg List.length he;rw[yd,yd,yH] at this;lia
  refine⟨_,(Yl (i:=3) Js.nd rfl ?A3),?_⟩;refine gf hr.units (bX fun b'=>jT (a:=a) (d:=.raw (.ref hd)) ?A9 ?BC yZ.c yZ.n_handed rfl ⟨hd,rfl,Yn ?B9 ⟨kP p,hs'.map hsV,_,Iy.symm,DD,by rw[yd,sizeLine_eq];lia,?_⟩⟩);have pd:wB (hs'.map hsV) (kP p) (.raw (.ref b'))=(hs'++[(p,b',[])]).map hsV:=by
   unfold wB;rw[hn,yk];rfl
  rw[pd];refine kK (Ω':=zQ P w K C_Parts C_Sums ⟨a,kb,hd,?DA,?yL,hs'++[(p,b',[])],rs⟩) ?_ (y9 ⟨_,_,rfl,rfl,?_⟩)
  .unfold zQ;rw[sv];exact B4
  .rw[yk,he,Yg hp,yk];rfl
 .rintro Γ Ω ⟨x3,hs',rfl,rfl,he⟩;rw[yd,yI] at he;refine Zt (ZQ ?Pw [] (fs:=pF) (gs:=pgD ?Pw) U1 yZ.c ?A2 (Yn ?A9 ⟨rfl,yh,qT (yc (QO (yc (Kv (d:=.str st) Q5 yP.c ?A2 ?AQ za ?FP) yr)) (yc yB (yc (zy z.len rfl ?AS) (yc (QO (yc (Y5 Zd rfl) (yc (Y5 Zd rfl) yr))) yr)))) ⟨by rw[yM],⟨[st],0,row.length,1,1,1,?_,yg _,?_,?_,by decide⟩,rfl,?_⟩⟩) Zu)
  .rw[yd];rfl
  .have:(0,?Gy)∈(hs'.map erS).map ?C:=by rw[he,YB];exact yn.mpr ⟨_,uV r1 ?AH,rfl⟩
   rw[YB] at this;exact this
  .show zo ?MH 1;rw[he];intro s hs;obtain⟨p,_,rfl⟩:=yn.mp hs;exact⟨YC _,fun x hx=>by cases hx⟩
  rintro t' d ⟨_,g⟩;obtain⟨hs2,rfl,g1,_⟩:=g [st] 0 row.length 1 1 (by rw[yd];rfl);rw[yM];have g1:hs2.map erS=(UI rs st row 0).1:=by
   rw[g1];show j4 ?AA ?MH 0 row.length [st] (1,1)=_;rw[he];rfl
  have inv:=fun k=>uw o k;refine kE PassesOwn.never rfl (GC z.reversed rfl (jT (a:=a) (d:=.lst ((?AT).map Zg)) ?A9 yh yZ.c yZ.n_spans rfl ⟨_,rfl,fun k Γ Ω=>∃ x3 x4 x5 hs',Γ=[some (.raw (.ref a)),some ?BX,some ?CH,x3,x4,x5]/\Ω=zQ P w K C_Parts C_Sums ⟨a,kb,hd,gS C_Grammar st rs row sa sb sc (UI rs st row k).2.1,(UI rs st row k).2.2,hs',rs⟩/\hs'.map erS=(UI rs st row k).1,⟨_,_,_,hs2,rfl,rfl,g1⟩,?_,?_⟩))
  .rintro k d Γ Ω hd' ⟨x3,x4,x5,hs3,rfl,rfl,he3⟩;rw[←List.map_reverse] at hd';obtain⟨p,hp,rfl⟩:=Vq hd';have hk:k<(Y7 row.length).length:=by have:=(?ET).1;rwa [jG] at this
   have l15:=ZZ rl;have hm:=vK ?M5;have iv:=inv k ?A;have nx:=pR (rs:=rs) (st:=st) (row:=row) hp
   clear inv
   generalize UI rs st row k=e at *;have iv2:EInv M row.length k (yQ rs) (zj rs) (eaT ⟨a,kb,hd,gS C_Grammar st rs row sa sb sc e.2.1,e.2.2,hs3,rs⟩):=by
    show EInv M row.length k ?AA ?Ao (?MB,e.2.1,e.2.2);rw[he3];exact iv
   have spm:=Er (t:=?qL) iv2 hm.1 hm.2;refine⟨_,(vo rfl (qh (Yl (i:=4) Js.nd rfl ?A3) (qh (Yl (i:=5) Js.nd rfl ?A3) zD))),?_⟩;refine Zt (ZQ ?qL [] (fs:=pF) (gs:=pgD ?qL) DV yZ.c ?A2 (Yn ?A9 ⟨rfl,yh,qT ?MC ⟨by rw[yM],⟨p.1,p.2,rfl,GT (t:=?qL) o.par iv2 (by lia) hm.1 hm.2⟩,rfl,?_⟩⟩) VO);rintro t' d ⟨_,g⟩;have g:=g p.1 p.2 rfl;subst g;rw[yM];refine Zt (ZQ ⟨a,kb,hd,?tP,?tQ,hs3,rs⟩ [] (fs:=pF) (gs:=pgD ?qL) BY yZ.c ?A2 (Yn ?A9 ⟨rfl,yh,qT ?MC ⟨by rw[yM];exact ?AV,⟨p.1,p.2,1+400*k,rfl,spm,fun r hr=>(o.s.par.br.body r hr).1,iv2.el,by have:=o.s.par.br.len;show 1+400*k+(?Ao).length<_;lia⟩,rfl,?_⟩⟩) Vb);rintro t' d ⟨_,g⟩;obtain⟨hs4,rfl,g2,_⟩:=g p.1 p.2 rfl;rw[yM];refine Zt (ZQ ⟨a,kb,hd,?tP,?tQ,hs4,rs⟩ [] (fs:=pF) (gs:=pgD ?qL) B2 yZ.c ?A2 (Yn ?A9 ⟨rfl,yh,qT ?MC ⟨by rw[yM],⟨p.1,p.2,_,M,b,rfl,GU (t:=?qL) (hs':=hs4) (kb:=?tQ) o.par iv2 (by lia) hm.1 hm.2 g2⟩,rfl,?_⟩⟩) ZX);rintro t' d ⟨_,g⟩;obtain⟨hs5,rfl,g3,_⟩:=g p.1 p.2 rfl;rw[yM];have ge:ZU (yQ rs) (yJ rs) row (knG rs row) p.1 p.2 (hs4.map erS,e.2.1)=ZU (yQ rs) (yJ rs) row (knG rs row) p.1 p.2 (Ql (yQ rs) (zj rs) (QI (yQ rs) (Zz rs) e.1 (p.1,p.2) e.2.2) p.1 p.2 e.1,e.2.1):=by
    rw[g2,←he3];rfl
   refine y9 ⟨_,_,_,hs5,rfl,?_,?_⟩
   .rw[nx];unfold dG;dsimp only;rw[←ge,←he3];rfl
   .rw[nx,g3];show(ZU ?AA ?AJ row ?As p.1 p.2 (hs4.map erS,e.2.1)).1=_;rw[ge];rfl
  .rintro Γ Ω ⟨x3,x4,x5,hs3,rfl,rfl,he3⟩;rw[jG,yd];refine y9 ⟨.inr ⟨a,kb,hd,sa,sb,sc,st,rs,row,(?MG).2.1,M,b,s'⟩,(hd,Jz P w K hd (hs3.map hsV))::omH P w K hs3,⟨rfl,fun a' st' rs' row' e=>?_⟩,Dy⟩;obtain⟨rfl,rfl,rfl,rfl⟩:=md e;exact⟨kb,hd,sa,sb,sc,_,M,b,s',rfl,Dk o⟩
end
section
variable {P:?A6}{w:?A5}{K:?A1}{mg:?G}{base:Heap}{C_Grammar C_Sums C_Parts:Addr}
variable (P w K mg base C_Grammar C_Sums C_Parts) in
abbrev iW:Prop:=OkM P w K mg base CX0 47 C_Parts "uses" ["self", "rule"] (spN K 2 (omU P w K C_Parts C_Sums C_Grammar) E4 Hk)
theorem Xa (z:?AM)(yZ:?D4)(y8:?BM)(yP:?BL)(d:YZ K C_Parts "uses" "Parts.uses" J8 ["self", "rule"])(vt:?Kw)(B1:?L5)(YM:?Iz)(Z3:?Ev)(k9:?Ik)(Ze:?IP):?JH:=by
 refine By d Zv rfl fun f cdv A outer s H E hr t ds hC B=>?_;obtain⟨j,r,m,rfl,hj,pu,hm⟩:=hC;have o:=pu.p;have hrm:=yx hj;have rl:t.row.length<=5:=o.s.par.rl;have b1:=o.b1 r hrm;have b4:=o.s.body r hrm;have l15:=ZZ rl;have kl:=pu.l;have hat:atI (yD t.rs) (j:Int)=some (jS r):=JX (by unfold yD;rw[yz,hj];rfl)
 refine QQ (i:=2) Zv.nd rfl ?By (kL (L:=?AN) (d:=.str r.1) (Γ':=[some ?Pi,some ?qE,none,none,none]) ?J9 (zl (i:=0) qV rfl yh Z8) xH rfl ?_)
 .exact hat
 refine QQ (i:=3) Zv.nd rfl ?By (kL (L:=?AN) (d:=Yd r.2.1) (Γ':=[some ?Pi,some ?qE,some (.str r.1),none,none]) ?J9 (zl (i:=0) qV rfl yh Z8) xH io ?_)
 .exact hat
 refine wV (i:=4) (SX:=yo J8) (XN:=["self", "rule", "head", "body", "pairs"]) (N:=["i", "j", "self", "head", "body"]) (nt:=2) (caps:=[0,2,3]) ?DI Zv.nd rfl ?A3 (wS (jT (a:=t.a) (d:=.lst ((?GG).map Zg)) ?FW yh yZ.c yZ.n_spans rfl ⟨_,rfl,fun k gs Ω'=>k<=15/\∃ kw,gs=(((Y7 t.row.length).take k).map (Bw t.rs t.st t.row r)).map Y4/\Ω'=omU P w K C_Parts C_Sums C_Grammar {t with kw:=kw}/\KwD t.M kw/\KwE (yJ t.rs) t.row (TW t.rs t.row) kw/\kw.length<=t.kw.length+k*14641,⟨YC _,t.kw,rfl,rfl,pu.d,pu.e,by lia⟩,?_,?_,?_⟩))
 .rintro k gs Ω' ⟨hk,kw,rfl,_⟩;rw[yd,yd,yH,sizeLine_eq];lia
 .rintro c k d gs Ω' hd ⟨hk,kw,rfl,rfl,kd,ke,kwl⟩;obtain⟨p,hp,rfl⟩:=Vq hd;have hk':k<(Y7 t.row.length).length:=(?ET).1;have hpi:=vK (yx hp);have nn:r.2.1≠[]:=by intro z;rw[z] at b1;simp at b1
  obtain⟨w1,w2⟩:=nK o.s (kw:=kw) nn hpi.1 hpi.2 ke;obtain⟨_,_,w3,w4⟩:=wn (hs:=?Fa) (row:=t.row) o.s.par.d o.par.kn r.2.1 nn p.1 p.2 kw hpi.1 ?A kd;have h11:11 ^ r.2.1.length<=11 ^ 4:=YU ?B b4;have gs:GsOk (gS C_Grammar t.st t.rs t.row t.sa t.sb t.sc kw) t.M t.b:=⟨o.s.par.d,o.s.par.db,o.s.par.bl,rl,o.par.kn,kd⟩
  refine⟨_,(vo rfl (qh (Yl (i:=0) (show List.Nodup (α:=Str) ["i", "j", "self", "head", "body"] by decide +kernel) rfl ?A3) (qh (Yl (i:=1) (show List.Nodup (α:=Str) ["i", "j", "self", "head", "body"] by decide +kernel) rfl ?A3) zD))),(Sub.trans ?CE ?CE),fun q=>?_⟩;have wG:oj 4 (gS C_Grammar t.st t.rs t.row t.sa t.sb t.sc kw) [.raw (.ref t.sa),Yd r.2.1,.int (p.1:Int),.int (p.2:Int)] (gS C_Grammar t.st t.rs t.row t.sa t.sb t.sc (wBm (yJ t.rs) t.row (knG t.rs t.row) r.2.1 p.1 p.2 kw).2) (sh (wBm (yJ t.rs) t.row (knG t.rs t.row) r.2.1 p.1 p.2 kw).1):=⟨r.2.1,p.1,p.2,t.M,t.b,rfl,rfl,rfl,b1,b4,?B,hpi.1,hpi.2,gs,by show kw.length+4*20000<=16000000;lia⟩
  rw[w1] at wG;generalize (wBm ?Fa t.row ?M8 r.2.1 p.1 p.2 kw).2=kw' at *;refine ax (YL (Kz (L:=?AN) (d:=sh (bB t.rs t.st t.row r.1 p.1 p.2)) (Γ':=[some (.int (p.1:Int)),some (.int (p.2:Int)),some (.obj C_Parts pF [.raw (.ref t.sa),.lst ?Fb,knD ?H1,.lst ((?GG).map Zg),.raw ?Gw]),some (.str r.1),some (Yd r.2.1)]) (K4 vt yZ.c ?A2 ?Cz V2 (yc (pqc 3 rfl) ?HG) ⟨_,_,_,_,?H1,r.1,p.1,p.2,rfl,rfl⟩) (ve (i:=2) (Zw qV) rfl (vO ?BC ?Po)) (qW vm xH) rfl
   (YL (ft (gS C_Grammar t.st t.rs t.row t.sa t.sb t.sc kw) (gS C_Grammar t.st t.rs t.row t.sa t.sb t.sc kw') (sh (wP ?Fa t.row (TW t.rs t.row) r.2.1 p.1 p.2)) [_,(t.a,zi K C_Parts pF (pDU t)),(t.kb,?Pf)] (fs:=sF) (gs:=[gD C_Grammar t.st t.rs,Yd t.row,.lst (yT ?Fa),.lst (yD (zj t.rs)),chD (yQ t.rs) (Zz t.rs),.raw (.ref t.sb),.raw (.ref t.sc)]) B1 y8.c hr rfl (jT (a:=t.a) (d:=.raw (.ref t.sa)) ?Cz ?BC yZ.c yZ.n_sums rfl ⟨rfl,?Ds,qT (yc (pqc 4 rfl) ?HG) ⟨AC,wG,rfl,qT yr ⟨?_,omU P w K C_Parts C_Sums C_Grammar {t with kw:=kw'},AC.symm,?A,kw',?_,rfl,w3,w2,?A⟩⟩⟩) jp))))
  .show 2<=sizeLine;decide
  .rw[Yg hp,yk,yk];rfl
 .rintro lp gs Ω' ⟨-,kw,rfl,rfl,kd,ke,kwl⟩;rw[yd,yI];rw[yd] at kwl;have s5:=o.s5;have q5:=o.s.sz r hrm;obtain⟨x,y,us,⟨wp,wh⟩,xy⟩:=nM o hrm;have nb:=o.nb;have big':big=67108864:=rfl;refine vp (Kz (L:=?AN) (d:=sh ?Lo) (Γ':=[some (.obj C_Parts pF [sO C_Sums (gD C_Grammar t.st t.rs) (Yd t.row) (.lst (yT ?Fa)) (.lst (yD (zj t.rs))) (chD (yQ t.rs) (Zz t.rs)) (knD ?M8) (.raw (.ref t.sc)),.lst ?Fb,.raw (.ref t.kb),.lst ((?GG).map Zg),.raw ?Gw]),some ?qE,some (.str r.1),some (Yd r.2.1),some (.lst (((?GG).map (Bw t.rs t.st t.row r)).map Y4))]) (Yp (d:=sh ?Lo) k9 ?A2 rfl (yc (Yp (d:=sh (r.2.2*cb t.rs t.st t.row r)) Z3 ?A2 rfl (yc ?J9 (yc (Yp (d:=sh ?Pl) YM ?A2 rfl (yc ?Ab yr) ?_) yr)) ?_) (yc (Kv (d:=sh ?Pm) Ze y8.c ?A2 (zd ?FW yZ.c yZ.n_sums rfl) vR ?_) yr)) ?_) (ve (i:=4) (ve (i:=0) (Zw qV) rfl (vO ?BC (Y6 (vO ?Ds (Y6 jc (Y6 jc (Y6 jc (Y6 jc (Y6 jc (Y6 (fQ (yb _ ?Ds) Q6) Q6))))))) Q6))) rfl (Gn yh Q6)) (qW vm xH) rfl ⟨{t with kw:=kw},[_],fun j' r' e' hr'=>?_,Yu (l₁:=[_])⟩)
  .exact hat
  .exact sd o hrm
  .exact⟨r.2.2,?Pl,t.s,x,rfl,rfl,q5.1,us.1,q5.2,us.2,?A,?A,?Bx⟩
  .exact⟨t.st,t.rs,t.row,_,_,_,_,?M8,rfl,rfl⟩
  .exact⟨r.2.2*cb t.rs t.st t.row r,?Pm,t.s+x,y,rfl,rfl,ZB q5.1 us.1,YH wp,K7 q5.2 us.2,wh,?A,?A,wp⟩
  .have e1:=(?qK).1;have z1:=D.int.inj e1;have:j'=j:=by lia
   subst j';rw[hj] at hr';cases hr';exact⟨rfl,kw,rfl,fun m' pm=>⟨o,kd,ke,yU kwl (by have:=pm.l;show t.kw.length+_<=_;lia)⟩⟩
end
section
variable {P:?A6}{w:?A5}{K:?A1}{mg:?G}{base:Heap}{C_Grammar C_Sums C_Parts:Addr}
variable (P w K mg base C_Grammar) in
abbrev Au:Prop:=OkF P w K mg base CX0 53 "counts_of" ["grammar", "counted"] (spP K 2 (Gi C_Grammar))
theorem cD (z:?AM)(yP:?BL)(yZ:?D4)(y6:?V)(d:Yt K mg "counts_of" JK ["grammar", "counted"])(qP:?F8)(dj:?LT)(VQ:?JH)(Z4:?F1)(Z3:?Ev):?No:=by
 refine YS d JW rfl fun f cdv A outer s H E hr ds r hC B hB=>?_;obtain⟨st,rs,cs,U,rfl,rfl,ok,l12⟩:=hC;have big':big=67108864:=rfl;refine bS (i:=2) (SX:=yo JK) (XN:=["grammar", "counted", "counts", "row", "many", "parts"]) (N:=["rule"]) (nt:=1) (caps:=[]) (pre:=(fun i=>(?B8).map fun _=>sh 0))  ⟨rfl,?E,?E,?E,rfl,?E⟩ JW.nd rfl (.inl rfl)  (QH (PF3.p (JR (ds:=?AO) qP yP.c ?A2 (pq 0 rfl) jg ?_))) ?_ ?_ ?_ ?_
 .exact⟨st,rs,rfl,rfl⟩
 .intro i hi;rw[yd,yH,sizeLine_eq];lia
 .rfl
 .intro c i d hd;obtain⟨r,hr',rfl⟩:=QC hd;refine⟨_,(Yl (i:=0) (show List.Nodup (α:=Str) ["rule"] by decide +kernel) rfl (.inl rfl)),(Sub.set rfl),.inl ⟨sh 0,zU,(Y5 y6 rfl),?_⟩⟩;dsimp only;rw[Yg hr',yk];rfl
 rw[YF,yI];refine jF PassesOwn.never rfl (QH (pq 1 rfl)) (fun i Γ Ω=>∃ x3 x4 x5,Γ=[some ?BX,some (.lst ?BD),some (.lst (rs.map fun r=>?FT)),x3,x4,x5]/\Ω=[]) ⟨_,_,_,rfl,rfl⟩ ?_ ?_
 .rintro i d Γ Ω hd ⟨x3,x4,x5,rfl,rfl⟩;obtain⟨c,hc,rfl⟩:=W7 hd;have hi:i<cs.length:=(yi.mp hc).1;have hcm:=yx hc;obtain⟨_,c9,M,b,s',o,_⟩:=ok.c c hcm;have ou:=ok.u;have ol:=ok.l;refine⟨_,(vo rfl (qh (Yl (i:=3) JW.nd rfl (.inl rfl)) (qh (Yl (i:=4) JW.nd rfl (.inr rfl)) zD))),?_⟩;refine QQ (i:=5) JW.nd rfl (.inr rfl) (cA .inl dj ?A2 rfl (yc (pq 0 rfl) (yc (pq 3 rfl) yr)) (fun _=>rfl) (fun a=>⟨a,st,rs,c.1,M,b,s',rfl,rfl,o⟩) fun a t' d h=>?_);obtain⟨rfl,h⟩:=h;obtain⟨kb,hd',sa,sb,sc,kw,M,b,s',rfl,pu⟩:=h a st rs c.1 rfl;refine⟨rfl,?_⟩;rw[yM];refine wV (i:=2) (SX:=yo JK) (XN:=["grammar", "counted", "counts", "row", "many", "parts"]) (N:=["number", "count", "many", "parts"]) (nt:=2) (caps:=[4,5]) ⟨rfl,?E,?E,?E,rfl,?E⟩ JW.nd rfl (.inl rfl) (bO (BV z.enumerate rfl (pq 2 rfl)) ?_);refine⟨fun k gs Ω'=>k<=rs.length/\∃ kw,gs=(rs.take k).map (fun r=>?qH)/\Ω'=omU P w K C_Parts C_Sums C_Grammar ⟨a,kb,hd',sa,sb,sc,st,rs,c.1,kw,M,b,s'⟩/\PuOk k ⟨a,kb,hd',sa,sb,sc,st,rs,c.1,kw,M,b,s'⟩,⟨YC _,kw,rfl,rfl,pu⟩,?_,?_,?_⟩
  .rintro k gs Ω' ⟨hk,kw,rfl,_⟩;rw[yd,yH,sizeLine_eq];lia
  .rintro cc k d gs Ω' hd ⟨hk,kw,rfl,rfl,pk⟩;obtain⟨r,hr',rfl⟩:=Bl hd;have hrm:=yx hr';have hk':k<rs.length:=(?Da).1;have u:=cG ok hcm hrm;have cz:=cW ok hrm i ?A;have e9:i*(U+5)<=2*1000005:=qt ?A ?A;have m0:(0:Rat)<=((c.2:Nat):Rat)/\Sz 4 ((c.2:Nat):Rat):=⟨cy,a9 c9⟩
   refine⟨_,(vo rfl (qh (Yl (i:=0) (show List.Nodup (α:=Str) ["number", "count", "many", "parts"] by decide +kernel) rfl (.inl rfl)) (qh (Yl (i:=1) (show List.Nodup (α:=Str) ["number", "count", "many", "parts"] by decide +kernel) rfl (.inl rfl)) zD))),(Sub.trans (Sub.set rfl) (Sub.set rfl)),fun l=>?_⟩;refine Ux Z4 ?A2 rfl (YL (Yn (pq 1 rfl) (YL (Ux Z3 ?A2 rfl (YL (Yn (zC (d:=sh ((c.2:Nat):Rat)) (QO (yc (pqc 2 rfl) ?C8)) ?_) (YL (ZQ ⟨a,kb,hd',sa,sb,sc,st,rs,c.1,kw,M,b,s'⟩ [(l,YW K ((?EC).map fun r=>?qH))] (fs:=pF) (gs:=pDU ⟨a,kb,hd',sa,sb,sc,st,rs,c.1,kw,M,b,s'⟩) VQ yZ.c ?A2 (Yn (pqc 3 rfl) ⟨rfl,?BC,qT (yc (pq 0 rfl) yr) ⟨Yu (l₁:=[_]),⟨k,r,k,rfl,hr',pk,?A⟩,rfl,?_⟩⟩) KU))))))))
   .rfl
   rintro t' d hC;obtain⟨rfl,kw',rfl,hp⟩:=hC k r rfl hr';refine qT yr ⟨sh ?kV,⟨((c.2:Nat):Rat),KI rs st c.1 r,4,U,rfl,rfl,m0.1,u.1,m0.2,u.2,?A,?A,?Bx⟩,rfl,qT yr ⟨?qH,⟨?H0,?kV,1+i*(U+5),4+U,rfl,by rw[gX hc],cz.1,ZB m0.1 u.1,cz.2,K7 m0.2 u.2,by lia,by lia,trivial⟩,rfl,_,Yu (l₂:=[_]),?A,kw',?_,rfl,hp k pk⟩⟩;rw[Yg hr',yk];rfl
  .rintro l gs Ω' ⟨-,kw,rfl,rfl,pk⟩;rw[rg,yd,yI];refine j6 (i:=2) rfl ?_;exact cK (Ω':=[]) (Ω5:=_) ?AV (y9 ⟨_,_,_,rfl,rfl⟩)
 .rintro Γ Ω ⟨x3,x4,x5,rfl,rfl⟩;rw[uJ,yI];refine qH (pq 2 rfl) ?_;rfl
variable (P w K mg base) in
abbrev tw:Prop:=OkF P w K mg base CX0 35 "sums_by_head" ["rules", "counts"] (spP K 2 Hg)
theorem wA (z:?AM)(y6:?V)(d:Yt K mg "sums_by_head" JD ["rules", "counts"])(Z4:?F1):tw P w K mg base:=by
 refine YS d zv rfl fun f cdv A outer s H E hr ds r hC B hB=>?_;obtain⟨rs,f',rfl,rfl,l12,hf⟩:=hC;have big':big=67108864:=rfl;refine QQ (i:=2) zv.nd rfl ?A3 (cH fun l=>?_);refine jF PassesOwn.never rfl (fx z.zip rfl ?A9 ?AQ) (fun i Γ Ω=>∃ x3 x4,Γ=[some ?Bo,some (.lst (rs.map fun r=>?E7)),some ?Ah,x3,x4]/\Ω=[(l,oDk K ((?Er).1.map qv) ((?Er).2.map sh))]) ?Ft ?_ ?_
 .rintro i d Γ Ω hd ⟨x3,x4,rfl,rfl⟩;obtain⟨r,hr',rfl⟩:=aH hd;have hrm:=yx hr';have hi:i<rs.length:=(?Da).1;have so:=A4 (f:=f') (rs:=rs) i ?A;have hq:=hf r hrm;have sz:=VD (f:=f') (h:=r.1) (rs:=?B8) (n:=?FR) fun x hx=>hf x (YO hx);rw[←so.vl,yH] at sz;have e:sbh f' (rs.take (i+1))=(pK (sbh f' (rs.take i)).1 r.1,pA (?Er).1 (?Er).2 r.1 ((vA (?Er).1 (?Er).2 r.1).getD 0+f' r)):=by
   unfold sbh;rw[Yg hr',y7];rfl
  have ll:=so.ll;rw[yH] at ll;generalize sbh f' ?B8=a at *;refine⟨_,(vo rfl (qh (Yl (i:=3) zv.nd rfl ?A3) (qh (Yl (i:=4) zv.nd rfl ?A3) zD))),?_⟩;refine cp (l:=l) (k:=qv r.1) hr.units ?AS ?DJ (Ux Z4 ?A2 rfl (YL (tI (k:=qv r.1) (ks:=a.1.map qv) (ds:=a.2.map sh) hr.units ?AS yh ?DJ ?Fc (qT (yc ?Ab yr) ⟨sh ((vA a.1 a.2 r.1).getD 0+f' r),⟨(vA a.1 a.2 r.1).getD 0,f' r,1+i*2000012,?FR,?_,rfl,sz.1,hq.1,sz.2.mono ?A,hq.2,?A,?A,?Bx⟩,rfl,_,_,[],?AV,by rw[yd,sizeLine_eq];lia,?_⟩))))
  .rw[VH j3];cases vA a.1 a.2 r.1 <;> rfl
  .refine y9 ⟨_,_,rfl,?_⟩;rw[e,xM j3,xx j3];rfl
 .rintro Γ Ω ⟨x3,x4,rfl,rfl⟩;rw[XZ,yI];refine bG (i:=2) rfl ?_;exact qH ?AS rfl
variable (P w K mg base C_Grammar) in
abbrev Bc:Prop:=OkF P w K mg base CX0 54 "learnt" ["grammar", "counted"] (spP K 2 (Ae C_Grammar))
theorem pB (z:?AM)(yP:?BL)(y6:?V)(d:Yt K mg "learnt" kR ["grammar", "counted"])(qP:?F8)(fZ:?No)(Xe:tw P w K mg base)(k9:?Ik)(Q5:?GS)(KB:?JY):?Pk:=by
 refine YS d Zm rfl fun f cdv A outer s H E hr ds r hC B hB=>?_;obtain⟨st,rs,cs,U,rfl,rfl,ok,l12,gw⟩:=hC;have big':big=67108864:=rfl;have cf:∀ r∈rs,0<=qo rs st cs r/\Sz 2000011 ?Du:=fun r hr'=>lO ok hr';refine Y2 (i:=2) Zm.nd rfl (.inl rfl) (PF3.p (JR (ds:=?AO) qP yP.c ?A2 (pq 0 rfl) jg ?_)) ?_
 .exact⟨st,rs,rfl,rfl⟩
 refine Y2 (i:=3) Zm.nd rfl (.inl rfl) (Yp (d:=.lst (rs.map fun r=>sh ?Du)) fZ ?A2 rfl (yc (pq 0 rfl) (yc (pq 1 rfl) yr)) ?_) ?_
 .exact⟨st,rs,cs,U,rfl,rfl,ok,l12⟩
 refine Y2 (i:=4) Zm.nd rfl (.inl rfl) (Yp (d:=enD ?E1) Xe ?A2 rfl (yc (pq 2 rfl) (yc (pq 3 rfl) yr)) ?_) ?_
 .exact⟨rs,?BH,rfl,rfl,l12,cf⟩
 have so:=A4 (f:=?BH) (rs:=rs) rs.length ?AH;rw[yI] at so;have at1:∀ r∈rs,vA ((?E1).1.map qv) ((?E1).2.map sh) (qv r.1)=some (sh (js ?BH rs r.1)):=fun r hr'=>by
  rw[VH j3];obtain⟨v,hv⟩:=We (k:=r.1) (ks:=(?E1).1) (xs:=(?E1).2) ((so.ks _).mpr (yn.mpr ⟨r,hr',rfl⟩)) so.eq;have:=so.vl r.1;rw[hv] at this ⊢;rw[←this];rfl
 have sz:∀ h,0<=js ?BH rs h/\Sz 24000145 (js ?BH rs h):=fun h=>by
  have:=VD (h:=h) cf;exact⟨this.1,this.2.mono ?A⟩
 refine kQ (i:=5) Zm.nd rfl (.inl rfl) ?C1 fun l=>?_;unfold enD;refine jF PassesOwn.never rfl (fx z.zip rfl (pq 2 rfl) (pq 3 rfl)) (fun i Γ Ω=>∃ x6 x7,Γ=[some ?BX,some (.lst ?BD),some (.lst ?AO),some (.lst (rs.map fun r=>sh ?Du)),some (.dk ((?E1).1.map qv) ((?E1).2.map sh)),some (.raw (.ref l)),x6,x7]/\Ω=[(l,YW K (yD ((?B8).flatMap ?Ph)))]) ⟨_,_,rfl,rfl⟩ ?_ ?_
 .rintro i d Γ Ω hd ⟨x6,x7,rfl,rfl⟩;obtain⟨r,hr',rfl⟩:=aH hd;have hrm:=yx hr';have hi:i<rs.length:=(?Da).1;have cr:=cf r hrm;have sr:=sz r.1;have ar:=at1 r hrm;have fl:((rs.take i).flatMap (Jd (qo rs st cs) (js (qo rs st cs) rs))).length<sizeLine:=by
   have:=uy (f:=?BH) (S:=js ?BH rs) (rs:=?B8);rw[yH] at this;rw[sizeLine_eq];lia
  have nx:(rs.take (i+1)).flatMap (Jd (qo rs st cs) (js (qo rs st cs) rs))=(rs.take i).flatMap (Jd (qo rs st cs) (js (qo rs st cs) rs))++Jd (qo rs st cs) (js (qo rs st cs) rs) r:=by rw[Yg hr',Qk];simp
  rw[show Jd (qo rs st cs) (js (qo rs st cs) rs) r=if js (qo rs st cs) rs r.1=0 then [r] else if qo rs st cs r=0 then [] else [(r.1,r.2.1,qo rs st cs r / js ?BH rs r.1)] from rfl] at nx;generalize (?B8).flatMap ?Ph=fo at *;generalize js ?BH rs r.1=S at *;refine⟨_,(vo rfl (qh (Yl (i:=6) Zm.nd rfl (.inl rfl)) (qh (Yl (i:=7) Zm.nd rfl (.inl rfl)) zD))),?_⟩;refine zO (qI (Xq hr.units (wd (k:=qv r.1) (d:=sh S) hr.units (pq 4 rfl) (Yr (pq 6 rfl) yB rfl) ?_) (Y5 y6 rfl) Ja Jg)) ?_ ?_
  .exact ar
  .intro hk;rw[QL] at hk;have hk:=of_decide_eq_true hk;refine JF (i:=5) rfl (.inl rfl) rfl (pq 6 rfl) ?xV ?_;refine y9 (y9 ⟨_,_,rfl,?_⟩);rw[nx,yf hk];unfold yD;rw[yk];rfl
  .intro hk;rw[QL] at hk;have hS:=of_decide_eq_false hk;have sp:0<S:=by grind
   refine zO (qI (Xn hr.units (pq 7 rfl) (Y5 y6 rfl) Ja Jg)) ?_ ?_
   .intro hk;have hk':qD (sh (qo rs st cs r)) (sh 0)=false:=by simpa using hk
    rw[QL] at hk';have hc:=of_decide_eq_false hk';refine JF (i:=5) rfl (.inl rfl) rfl (d:=jS (r.1,r.2.1,qo rs st cs r / S)) (QO (yc (Yr (pq 6 rfl) yB rfl) (yc (Yr (pq 6 rfl) yB rfl) (yc (Yp (d:=sh (qo rs st cs r / S)) k9 ?A2 rfl (yc (pq 7 rfl) (yc (wd (k:=qv r.1) (d:=sh S) hr.units (pq 4 rfl) (Yr (pq 6 rfl) yB rfl) ar) yr)) ⟨?Du,S,?FR,24000145,rfl,rfl,cr.1,sr.1,cr.2,sr.2,?A,?A,sp⟩) yr)))) ?xV ?_;refine y9 (y9 (y9 ⟨_,_,rfl,?_⟩));rw[nx,ye hS,ye hc];unfold yD;rw[yk];rfl
   .intro hk;have hk':qD (sh (qo rs st cs r)) (sh 0)=true:=by simpa using hk
    rw[QL] at hk';have hc:=of_decide_eq_true hk';refine y9 (y9 (y9 ⟨_,_,rfl,?_⟩));rw[nx,ye hS,yf hc,yM]
 .rintro Γ Ω ⟨x6,x7,rfl,rfl⟩;rw[XZ,yI];refine j6 (i:=5) rfl ?_;refine qH (rF (r:=(gF,gDs st (wI ?BH rs))) KB ?A2 rfl (yc (Kv (d:=.str st) Q5 yP.c ?A2 (pq 0 rfl) za ?_) (yc (pq 5 rfl) yr)) ?_) ?_
  .exact⟨st,rs,rfl,rfl⟩
  .exact⟨st,_,rfl,rfl,gw⟩
  rfl
end
end Law
namespace L2
open PySem PySem.Spec PySem.Calls PyProof.Rows
section
variable {X:Cx}
theorem lN:∀ {ss:List Str} {its:List Value},qc ?I7 its->StrsAre its ss
 |[],[],_=>.nil
 |[],_::_,h=>by cases h
 |x::ss,[],h=>by cases h
 |x::ss,u::its,.cons h1 h2=>by
  obtain⟨t,rfl⟩:=h1;exact .cons x t (lN h2)
theorem lL:∀ {ss:List Str} {its:List Value},StrsAre its ss->qc ?I7 its
 |_,_,.nil=>.nil
 |_,_,.cons x t h=>.cons ⟨t,rfl⟩ (lL h)
theorem fJ:V5 X (.builtin "sorted") (fun xs H Q=>∃ p ss,xs=[.ref p]/\SqL X.K H p ?I7/\ss.length<64/\∀ ss',ss'.Perm ss->sortedS ss'=true->∀ l,H l=none->Q ?Bh (upd H l ?Jo)):=by
 intro pins s σ H xs us Q I r h;obtain⟨p,ss,rfl,hq,h64,q⟩:=h;obtain⟨u,rfl,rx⟩:=wc r;cases rx;obtain⟨its,r',pl,hz⟩:=I.list hq;have hlen:=r'.length;rw[yd] at hlen;refine sorted_strs pl.isList (lN r') ?A fun out ss' a1 a2 a3=>?_;obtain⟨c',he⟩:=sortedAll_at s.heap its out;refine⟨.ref ?zD,_,I.laid (t':=?Ac) (fun _ _=>sortedAll_old) ?G7 (show qQ X.prog X.w _ _ _ ?Jo from ⟨?_,out.toList,c',lL a1,he⟩),rfl,q ss' a2 a3 _ (I.hok.fresh ?G7)⟩;have hs:sizeLine=16777216:=sizeLine_eq;rw[yd,a2.length_eq];lia
end
end L2
namespace L3
open PySem PySem.Spec PySem.Calls PyProof.Rows L2
abbrev leT (a b:Str):Prop:=a.cps.toList<=b.cps.toList
theorem AN {a b c:Str}(h1:leT a b)(h2:leT b c):leT a c:=List.le_trans h1 h2
theorem Fg {a b:Str}(h1:leT a b)(h2:leT b a):a=b:=by
 have:=List.le_antisymm h1 h2;obtain⟨⟨x⟩⟩:=a;obtain⟨⟨y⟩⟩:=b;simp at this;rw[this]
theorem X6:∀ {l:List Str} {p:Str},risingS p l=true->(p::l).Pairwise leT
 |[],p,_=>by simp
 |x::r,p,h=>by
  have h:(!ltCps x.cps.toList p.cps.toList&&risingS x r)=true:=h;rw[Yw,ltCps_eq] at h;have ih:=X6 h.2;have px:leT p x:=by
   have:=h.1;simp at this;exact this
  refine List.pairwise_cons.mpr ⟨fun y hy=>?_,ih⟩;rcases yG.mp hy with z|z
  .rw[z];exact px
  .exact AN px (List.rel_of_pairwise_cons ih z)
theorem aF {l:?A0}(h:sortedS l=true):l.Pairwise leT:=by
 cases l with
 |nil=>simp
 |cons x r=>exact X6 h
theorem pz {a b:?A0}(p:a.Perm b)(ha:sortedS a=true)(hb:sortedS b=true):a=b:=List.Perm.eq_of_pairwise (fun x y _ _ h1 h2=>Fg h1 h2) (aF ha) (aF hb) p
theorem oA (l:?A0):∃ l',l'.Perm l/\sortedS l'=true:=by
 refine⟨l.mergeSort fun a b=>decide (leT a b),List.mergeSort_perm _ _,sortedS_of_pairwise _ ?_⟩;have:=List.pairwise_mergeSort (le:=fun a b:Str=>decide (leT a b)) (fun a b c h1 h2=>yL (AN (of_decide_eq_true h1) (of_decide_eq_true h2))) (fun a b=>by
  rcases List.le_total a.cps.toList b.cps.toList with z|z
  .rw[yL (show leT a b from z)];rfl
  .rw[yL (show leT b a from z)];simp) l
 refine this.imp fun {a b} h=>?_;rw[ltCps_eq];exact yA ?Oi
theorem pM:bootBuiltins "sorted" = some (.builtin "sorted"):=by decide +kernel
theorem Am {K:?A1}{F:Hp}:∀ {ss:List Str} {xs:List V},IsL K F (yT ss) xs->xs=ss.map V.str
 |[],xs,h=>by simpa [IsL,yT] using h
 |x::ss,xs,h=>by
  unfold yT at h;simp only[yt,IsL] at h;obtain⟨y,r,e,h1,h2⟩:=h;rw[e,Am (ss:=ss) h2,isS h1];rfl
theorem nF {K:?A1}{F:Hp}:∀ {ss:List Str},IsL K F (yT ss) ?I7
 |[]=>IsL.nil
 |x::ss=>IsL.cons (X7 F) (nF (ss:=ss))
variable {X:Cx}{Γ:Ga}{a:Expr}{p pos:Pos}{ss ss':?A0}
theorem eB (hm:X.mg "sorted" = none)(hg:Gl X "sorted")(ha:P3 X Γ a (.lst (yT ss)))(hl:ss.length<64)(hp:ss'.Perm ss)(ho:sortedS ss'=true)(he:?zG:=by rfl):P3 X Γ (.Call (.Name "sorted" p) [a] [] pos) (.lst (yT ss')):=
 ZT fJ hg hm pM ?CM (fun vs H F Q fh i q=>by
  obtain⟨x,rfl,j0⟩:=Ui i;obtain⟨l,xs,rfl,s1,j1⟩:=ze j0;rw[Am j1] at s1;refine⟨l,ss,rfl,?FD,hl,fun s2 p2 o2 l' hl'=>?_⟩;rw[pz (p2.trans hp.symm) o2 ho];have pu:=Pur.lay (o:=?Jo) fh hl';exact q _ _ _ pu (Is.lstI ?EK nF)) ?B ?B he
structure InsK (K:?A1)(C:Addr):Prop where
 ca:W.findIn K ?AF "__class__" = some (some ?zN)
 gs:W.specialIn K ?zN "__get__" = some (some ?wS)
 tk:W.takesIn K ?zN=some true
 mo:W.mroIn K C (.type "object")=some true
 ki:W.kitOne K ?AF ?AF=some true
theorem DJ {X:Cx}{Γ:Ga}{a b:Expr}{p pos:Pos}{C:Addr}{fs:?A0}{gs:?A7}(hm:X.mg "isinstance" = none)(hg:Gl X "isinstance")(ha:P3 X Γ a (.obj C fs gs))(hb:P3 X Γ b (.raw ?AF))(c:?CP)(k:InsK X.K C)
  (he:starEach [a,b] X.env=?qO::starEach [b] X.env:=by rfl) (he2:starEach [b] X.env=(?AN,?Ey)::starEach [] X.env:=by rfl) (hpl:(backTo pos (starEach [b] X.env)).any ?C=false:=by rfl):P3 X Γ (.Call (.Name "isinstance" p) [a,b] [] pos) ?EG:=
 ZT pe hg hm Xj ?O1 (fun vs H F Q fh i q=>by
  obtain⟨x,y,rfl,i1,i2⟩:=Bb i;cases isR i2;simp only[Is] at i1;obtain⟨ad,dx,xs,rfl,h1,_⟩:=i1;exact⟨.ref ad,_,true,rfl,.val (.ins (fh _ _ h1) c k.ca k.gs k.tk k.mo) k.ki ?zH,q _ _ _ ?Ag (Wr F)⟩) ?B ?B he hpl
section
variable {f:?zB}{S:Str->Rat}{h:Str}
theorem bC {r':yC}:∀ {rs:List yC},r'∈rs.flatMap (Jd f S)->∃ r∈rs,r'.1=r.1/\r'.2.1=r.2.1/\((S r.1=0/\r'=r)∨(S r.1≠0/\f r≠0/\r'.2.2=f r / S r.1)):=by
 intro rs hr;obtain⟨r,hm,hr⟩:=Y1.mp hr;refine⟨r,hm,?_⟩;unfold Jd at hr;split at hr
 .rename_i e;rw[yy.mp hr];exact⟨rfl,rfl,.inl ⟨e,rfl⟩⟩
 .rename_i e;split at hr
  .cases hr
  .rename_i e2;rw[yy.mp hr];exact⟨rfl,rfl,.inr ⟨e,e2,rfl⟩⟩
theorem mn:∀ {rs:List yC},((?HQ).map fun r=>?Y).Sublist (rs.map fun r=>?Y)
 |[]=>List.Sublist.refl _
 |r::rs=>by
  rw[Qt,yk,yt];have ih:=mn (rs:=rs);unfold Jd;split
  .exact ih.cons₂ _
  .split
   .exact ih.cons _
   .exact ih.cons₂ _
theorem bv:∀ {rs:List yC},Qi h ?HQ=if S h=0 then Qi h rs else js f rs h / S h
 |[]=>by
  split
  .rfl
  .show(0:Rat)=0 / S h;rw[jO,Rat.zero_mul]
 |r::rs=>by
  have ih:=bv (rs:=rs);rw[Qt,Uj,ih,Qd];unfold js;rw[wK];by_cases e:r.1=h
  .rw[yf e,yf e];unfold Jd;rw[e];by_cases z:S h=0
   .rw[yf z,yf z,yf z,Qd,yf e];show r.2.2+0+_=_;grind
   .rw[ye z,ye z,ye z];by_cases y:f r=0
    .rw[yf y,y,Qx];show 0+_=_;grind
    .rw[ye y,Qd,yf rfl];show f r / S h+0+_=_;rw[jO,jO,jO];grind
  .rw[ye e,ye e,Qx,Qx];have:Qi h (Jd f S r)=0:=by
    unfold Jd;split
    .rw[Qd,ye e,Qx];rfl
    .split
     .rfl
     .rw[Qd,ye e,Qx];rfl
   rw[this,Qx]
theorem WY:∀ {rs:List yC} {j:Nat},∃ i,(?HQ).take j=(?B8).flatMap (Jd f S)
 |[],j=>⟨0,by simp⟩
 |r::rs,0=>⟨0,by simp⟩
 |r::rs,j+1=>by
  rw[Qt];have one:∀ x:yC,Jd f S r=[x]->∃ i,(Jd f S r++rs.flatMap (Jd f S)).take (j+1)=((r::rs).take i).flatMap (Jd f S):=fun x e=>by
   obtain⟨i,hi⟩:=WY (rs:=rs) (j:=j);refine⟨i+1,?_⟩;rw[List.take_succ_cons,Qt,e,List.singleton_append,List.take_succ_cons,hi];rfl
  by_cases z:S r.1=0
  .exact one r (by unfold Jd;rw[yf z])
  .by_cases y:f r=0
   .obtain⟨i,hi⟩:=WY (rs:=rs) (j:=j+1);refine⟨i+1,?_⟩;have e:Jd f S r=[]:=by unfold Jd;rw[ye z,yf y]
    rw[List.take_succ_cons,Qt,e,Jl,hi,Jl]
   .exact one _ (by unfold Jd;rw[ye z,ye y])
theorem GH:∀ {rs:List yC},(∀ r∈rs,r.1=h->f r=0)->js f rs h=0:=fun {rs} h0=>XY fun r hr=>by
 by_cases e:r.1=h
 .rw[yf e];exact h0 r hr e
 .rw[ye e]
end
theorem UJ {f:?zB}{rs:?A4}{h:Str}:h∈yJ (wI f rs) ↔ h∈yJ rs:=by
 rw[Jf,Jf];constructor
 .intro m;obtain⟨r',hr,rfl⟩:=yn.mp m;obtain⟨r,hr,e,_⟩:=bC hr;exact yn.mpr ⟨r,hr,e.symm⟩
 .intro m;obtain⟨r,hr,rfl⟩:=yn.mp m;by_cases z:js f rs r.1=0
  .exact yn.mpr ⟨r,Y1.mpr ⟨r,hr,by unfold Jd;rw[yf z];simp⟩,rfl⟩
  .have:∃ q∈rs,q.1=r.1/\f q≠0:=Classical.byContradiction fun n=>z (GH fun q hq e=>Classical.byContradiction fun y=>n ⟨q,hq,e,y⟩);obtain⟨q,hq,e,y⟩:=this;refine yn.mpr ⟨(q.1,q.2.1,f q / js f rs q.1),Y1.mpr ⟨q,hq,?_⟩,e⟩;unfold Jd;rw[ye (by rw[e];exact z),ye y];simp
theorem E6 {hs ws:?A0}{rs:?A4}{f:?zB}{st:Str}(g:?GE)(hf:∀ r∈rs,0<=f r/\Sz 2000011 (f r))(hst:st∈hs):GW st (wI f rs):=by
 have rl:=g.rl;have l1:=uy (f:=f) (S:=js f rs) (rs:=rs);have sz:=fun h=>VD (h:=h) hf;have s0:st∈yJ (wI f rs):=UJ.mpr (by rw[g.fst];exact hst);have rz:∀ r∈rs,0<=r.2.2/\Sz 5 r.2.2:=fun r hr=>⟨YH (?Cq).1,(?Cq).2⟩
 refine⟨?_,yU l1 ?A,fun r' hr=>?_,List.Nodup.sublist mn g.prs,s0,fun h hh=>?_,fun r' hr=>?_,fun h j=>?_⟩
 .have:=Jf.mp s0;rw[←yd (f:=fun r:yC=>r.1)];exact List.length_pos_of_mem this
 .obtain⟨r,hr,e1,e2,e3⟩:=bC hr;obtain⟨b1,b2,b3⟩:=g.body r hr;refine⟨?_,by rw[e2];exact b1,by rw[e2];exact b2,fun x hx=>g.sym x (b3 x (by rw[←e2];exact hx)),?_⟩
  .rw[e1];refine g.sym _ (yq _ ?_);rw[←g.fst];exact Jf.mpr (yn.mpr ⟨r,hr,rfl⟩)
  .rcases e3 with ⟨_,e3⟩|⟨z,y,e3⟩
   .rw[e3];exact(?Cq).1
   .rw[e3];have a:=(hf r hr).1;have b:=(sz r.1).1;have a':0<f r:=by grind
    have b':0<js f rs r.1:=by grind
    rw[jO];exact Rat.mul_pos a' (Rat.inv_pos.mpr b')
 .have hh:=UJ.mp hh;unfold wI;rw[bv];split
  .exact g.one h (by rw[←g.fst];exact hh)
  .rename_i z;rw[jO];exact Rat.mul_inv_cancel _ z
 .obtain⟨r,hr,e1,e2,e3⟩:=bC hr;rcases e3 with ⟨_,e3⟩|⟨z,y,e3⟩
  .rw[e3];exact(rz r hr).2.mono ?B
  .rw[e3];have b:=sz r.1;exact(xq (hf r hr).2 b.2 (by grind)).mono ?A
 .obtain⟨i,hi⟩:=WY (f:=f) (S:=js f rs) (rs:=rs) (j:=j);show Sz _ (Qi h ((rs.flatMap (Jd f (js f rs))).take j));rw[hi,bv];split
  .refine(dX (n:=5) fun r hr=>rz r (YO hr)).mono ?_;rw[yH];lia
  .rename_i z;have a:=VD (f:=f) (n:=?FR) (h:=h) (rs:=?B8) fun r hr=>hf r (YO hr);have b:=sz h;refine(xq a.2 b.2 (by grind)).mono ?_;rw[yH];lia
theorem gQ {hs ws:?A0}{rs:?A4}{f:?zB}(g:?GE):(yJ (wI f rs)).Perm hs:=by
 refine(List.perm_ext_iff_of_nodup Ku (Ye.mp g.nd).1).mpr fun h=>?_;rw[UJ,g.fst]
theorem BC {rs:?A4}{k:Nat}{r:yC}{f g:yC->D}(h:rs[k]?=some r):((?EC).map f++(?Gd).map g)[k]?=some (g r)/\((?EC).map f++(?Gd).map g).set k (f r)=(rs.take (k+1)).map f++(rs.drop (k+1)).map g/\ixN ((?EC).map f++(?Gd).map g).length (k:Int)=some k:=by
 obtain⟨hk,e⟩:=yi.mp h;have hl:((rs.take k).map f).length=k:=by rw[yd,yH];lia
 have hd:rs.drop k=r::rs.drop (k+1):=by rw[←e];exact List.drop_eq_getElem_cons hk
 rw[hd,yt];refine⟨?_,?_,?_⟩
 .rw[qz (by lia),hl,Nat.sub_self];rfl
 .rw[List.set_append_right _ _ (by lia),hl,Nat.sub_self,List.set_cons_zero,Yg h,yk,QX];rfl
 .exact Cw (by rw[yK,hl,yw];lia)
def E9:?H:=fun ds d=>∃ (rs:List yC) (f:yC->Rat),ds=[.lst ?AO,.lst (rs.map fun r=>sh (f r))]/\d=.lst (yD (wI f rs))/\rs.length<=12/\∀ r∈rs,0<=f r/\Sz 2000011 (f r)
def HI (Cg:Addr):?H:=fun ds d=>∃ (st:Str) (rs:List yC) (cs:Ct) (U:Nat),ds=[gD Cg st rs,.lst ?AO,.lst ?BD]/\d=.lst (rs.map fun r=>sh ?Du)/\CtP rs st cs U/\rs.length<=12
end L3
namespace Law
open PySem L2 L3
section
variable {P:?A6}{w:?A5}{K:?A1}{mg:?G}{base:Heap}{C_Grammar C_Sums C_Parts:Addr}
variable (P w K mg base) in
abbrev gJ:Prop:=OkF P w K mg base CX0 2 "_law_cell_at" ["_law_script", "_law_k"] (spP K 2 Fe)
theorem Wo (z:?AM)(d:Yt K mg "_law_cell_at" zp ["_law_script", "_law_k"])  : ?MA:=by
 refine YS d xK rfl fun f cdv A outer s H E hr ds r hC B hB=>?_;obtain⟨ns,k,rfl,rfl⟩:=hC;refine zO (qI (oU ?AQ (EE z.len rfl ?A9))) ?_ ?_
 .intro hk;have hk:=of_decide_eq_true hk;refine qH (HK (n:=?IL) ?A9 ?AQ ?_) ?_
  .have hk':k<ns.length:=by lia
   show atI ns (k:Int)=some ?IL;unfold atI ixN;rw[yf (by lia),yf ?A];show ns[((k:Int)).toNat]?=_;rw[Qz,yW,yl hk'];rfl
  .rfl
 .intro hk;have hk:=of_decide_eq_false hk;refine ?B2;refine qH yB ?_;show D.int 0=D.int ?IL;rw[yW,yE.mpr ?A];rfl
variable (P w K mg base) in
abbrev Wu:Prop:=OkF P w K mg base CX0 33 "_law_share" ["_law_top", "_law_bottom"] (spP K 2 mw)
theorem bZ (ht:?qQ)(d:Yt K mg "_law_share" zG ["_law_top", "_law_bottom"])  : ?GJ:=by
 refine YS d J9 rfl fun f cdv A outer s H E hr ds r hC B hB=>?_;obtain⟨t,b,rfl,rfl,h1,h2⟩:=hC;have py:Pyl (cx0 P w K mg base ["_law_top", "_law_bottom", "_law_one", "_law_other", "_law_rest"] "_law_share" zG f cdv A outer s H E):=(?JV).nox;have g0:=My.G_pos (a:=t) h2;refine Y2 (i:=2) J9.nd rfl ?A3 ?A9 ?_;refine Y2 (i:=3) J9.nd rfl ?A3 ?AQ ?_;refine aN PassesOwn.never (fun Γ _=>∃ (x y:Int) (z:Option D),Γ=[some (.int t),some (.int b),some (.int x),some (.int y),z]/\0<=x/\0<=y/\My.G x y=My.G t b) (fun Γ _=>match Γ with|[_,_,_,some (.int y),_]=>y.toNat|_=>0) ⟨t,b,none,rfl,h1,yN h2,rfl⟩ ?_;rintro Γ Ω ⟨x,y,z,rfl,hx,hy,hg⟩;refine⟨_,(qI (fz ?B9 yB)),fun hk=>?_,fun hk=>?_⟩
 .have hk:=of_decide_eq_true hk;refine Y2 (i:=4) J9.nd rfl ?A3 (Va ?AS ?B9 ?_) ?_
  .exact hk
  refine Y2 (i:=2) J9.nd rfl ?A3 ?B9 ?_;refine Y2 (i:=3) J9.nd rfl ?A3 ?Ab ?_;refine y9 ⟨⟨y,x % y,_,rfl,hy,(zZ hk).1,(lM hx hk).trans hg⟩,?_⟩;have:=zZ (a:=x) hk;show(x % y).toNat<y.toNat
  lia
 .have hk:=of_decide_eq_false hk;have y0:y=0:=by lia
  subst y0;rw[My.G_end hx] at hg;subst hg;refine ?ML
  .exact g0
  .exact g0
  show D.tup [D.int (t / My.G t b),D.int (b / My.G t b)]=sh ?Ch;unfold sh;rw[←My.num_share h2,←My.den_share h2,Yq _ (yN g0),Yq _ (yN g0)]
variable (P w K mg base) in
abbrev iL:Prop:=OkF P w K mg base CX0 34 "_law_added" ["_law_one", "_law_other"] (spP K 2 nj)
theorem cS  (d:Yt K mg "_law_added" ZF ["_law_one", "_law_other"])(JU:?GJ):?KQ:=by
 refine YS d bY rfl fun f cdv A outer s H E hr ds r hC B hB=>?_;obtain⟨p,q,m,n,rfl,rfl,hp,hq,s1,s2,l1,l2,-⟩:=hC;refine qH (Yp (d:=sh (p+q)) JU ?A2 rfl (yc (zf ?Df ?LN) (yc ?Df yr)) ?_) ?_
 .exact ?L7
 .exact ?L0
 .exact ?Kn
 .exact⟨_,_,rfl,by rw[My.q_add],EI hp hq,ic⟩
 .rfl
variable (P w K mg base) in
abbrev A5:Prop:=OkF P w K mg base CX0 34 "_law_timed" ["_law_one", "_law_other"] (spP K 2 lX)
theorem cI  (d:Yt K mg "_law_timed" ZA ["_law_one", "_law_other"])(JU:?GJ):A5 P w K mg base:=by
 refine YS d cU rfl fun f cdv A outer s H E hr ds r hC B hB=>?_;obtain⟨p,q,m,n,rfl,rfl,hp,hq,s1,s2,l1,l2,-⟩:=hC;refine qH (Yp (d:=sh (p*q)) JU ?A2 rfl (yc ?Df (yc ?Df yr)) ?_) ?_
 .exact rB s1 s2 l1 l2
 .exact ?Kn
 .exact⟨_,_,rfl,by rw[My.q_mul],QD (My.q_num_nn hp) (My.q_num_nn hq),ic⟩
 .rfl
variable (P w K mg base) in
abbrev gx:Prop:=OkF P w K mg base CX0 2 "_law_dice" ["_law_cell"] rD
theorem dD (d:Yt K mg "_law_dice" vg ["_law_cell"]):?KK:=by
 refine d.ok (k:=1) fw ?xO (fun f cdv A outer s H vs Q E hr h=>⟨_,mE (bW (lA (zY (uP cn (pv 0) Vy) Vs))),?_⟩)
 .obtain⟨c,rfl,_⟩:=h;rfl
 .obtain⟨c,rfl,q⟩:=h;have m:=zZ (a:=c) (show(0:Int)<2147483647 by decide);exact⟨_,rfl,_,_,rfl,rfl,(by show(0:Int)<2147483647;decide),(by show 1<=sizeLine;decide),fun p hp=>q p _ hp m.1 m.2⟩
variable (P w K mg base) in
abbrev xB:Prop:=OkF P w K mg base CX0 2 "_law_roll" ["_law_dice_here", "_law_most"] rK
theorem dY (d:Yt K mg "_law_roll" va ["_law_dice_here", "_law_most"]):?Fy:=by
 refine d.ok (k:=1) eT ?xO (fun f cdv A outer s H vs Q E hr h=>⟨_,qd (bJ (uP cn (uP gN (uP ng ?Oj Vy) Vy) Vy) (gh (pv 0) Vy fk)) (mE (bW (uP cn (uP De ?Oj Vy) (pv 1)))),?_⟩)
 .obtain⟨a,m,x,rfl,_⟩:=h;rfl
 .obtain⟨a,m,x,rfl,h1,h2,hH,x0,x1,q⟩:=h;have mm:=zZ (a:=x*48271+11) (show(0:Int)<2147483647 by decide);have mr:=zZ (a:=(x*48271+11) % 2147483647 / 7) h1;refine⟨_,rfl,a,_,_,_,rfl,rfl,SqL.of hH,JX (j:=0) rfl,_,_,rfl,rfl,ao ?B,_,_,rfl,rfl,_,_,rfl,rfl,(by show(0:Int)<2147483647;decide),?_⟩;refine⟨_,rfl,a,_,_,0,rfl,rfl,hH,rfl,?_⟩;refine⟨_,rfl,a,_,_,_,rfl,rfl,SqL.of yX,JX (j:=0) rfl,_,_,rfl,rfl,(by constructor <;> decide),_,rfl,_,_,rfl,rfl,h1,?_⟩;exact q _ _ mm.1 mm.2 mr.1 mr.2
variable (P w K mg base) in
abbrev sj:Prop:=OkF P w K mg base CX0 33 "_law_symbols" ["_law_cell", "_law_many"] (spP K 2 oy)
theorem WH (ht:?qQ)(z:?AM)(d:Yt K mg "_law_symbols" Jm ["_law_cell", "_law_many"])  : sj P w K mg base:=by
 refine YS d qJ rfl fun f cdv A outer s H E hr ds r hC B hB=>?_;obtain⟨c,m,rfl,rfl,hm⟩:=hC;have py:Pyl (cx0 P w K mg base ["_law_cell", "_law_many", "_law_letters", "_law_size", "_law_at", "_law_out", "_law_k", "_law_name", "_law_place", "_law_step"] "_law_symbols" Jm f cdv A outer s H E):=(?JV).nox;refine Y2 (i:=2) qJ.nd rfl ?A3 X3 ?_;refine Y2 (i:=3) qJ.nd rfl ?A3 (zf yB (Va ?A9 yB ?_)) ?_
 .decide
 have p8:0<1+c % 8:=by lia
 refine Y2 (i:=4) qJ.nd rfl ?A3 (Va (Jw py ?A9 yB ?_) ?B9 ?_) ?_
 .decide
 .exact p8
 refine kQ (i:=5) qJ.nd rfl ?A3 ?C1 fun l=>?_;refine jF PassesOwn.never rfl (zS (n:=m) z.range rfl ?AQ ?_ ?_) (fun k Γ Ω=>∃ x6 x7 x8 x9,Γ=[some (.int c),some ?qC,some (.str tJ),some (.int (1+c % 8)),some (.int ?xQ),some ?Ah,x6,x7,x8,x9]/\Ω=[?tI]) ?_ ?_ ?_
 .rfl
 .lia
 .exact⟨_,_,_,_,rfl,rfl⟩
 .rintro k d Γ Ω hd ⟨x6,x7,x8,x9,rfl,rfl⟩;obtain⟨hk,rfl⟩:=zu hd;rw[qp];refine⟨_,(Yl (i:=6) qJ.nd rfl ?A3),?_⟩;refine Y2 (i:=7) qJ.nd rfl ?A3 X3 ?_;refine jF PassesOwn.never rfl (zS (n:=szC c) z.range rfl ?B9 ?_ ?_) (fun p Γ Ω=>∃ x8 x9,Γ=[some (.int c),some ?qC,some (.str tJ),some (.int (1+c % 8)),some (.int ?xQ),some ?Ah,some (.int (k:Int)),some (.str ⟨(K0 c k p).toArray⟩),x8,x9]/\Ω=[?tI]) ?_ ?_ ?_
  .exact(Fq c).symm
  .have:=gA c;lia
  .exact ?Ft
  .rintro p d Γ Ω hd ⟨x8,x9,rfl,rfl⟩;obtain⟨hp,rfl⟩:=zu hd;rw[qp];have hz:=gA c;refine⟨_,(Yl (i:=8) qJ.nd rfl ?A3),?_⟩;refine Y2 (i:=9) qJ.nd rfl ?A3 (zf (Va (Jw py ?A9 yB ?_) yB ?_) (JM yB ?FZ ?_)) ?_
   .decide
   .decide
   .exact ao ?A
   refine rY (fun Γ Ω=>∃ q:Int,q=(stp c k p:Nat)/\Γ=[some (.int c),some ?qC,some (.str tJ),some (.int (1+c % 8)),some (.int ?xQ),some ?Ah,some (.int (k:Int)),some (.str ⟨(K0 c k p).toArray⟩),some (.int (p:Int)),some (.int q)]/\Ω=[?tI]) (qI (KQ ?FZ ?Ab)) ?_ ?_ ?_
   .intro hk2;have hk2:=of_decide_eq_true hk2;refine Y2 (i:=9) qJ.nd rfl ?A3 (zf (pq 9 rfl) ?BO) ?_;refine y9 ⟨_,?_,rfl,rfl⟩;unfold stp;rw[yf (by have:=A8 c;lia)];have:=Ap c;push_cast;lia
   .intro hk2;have hk2:=of_decide_eq_false hk2;refine y9 ⟨_,?_,rfl,rfl⟩;unfold stp;rw[ye (by have:=A8 c;lia)];have:=Ap c;push_cast;lia
   .rintro Γ Ω ⟨q,hq,rfl,rfl⟩;refine Y2 (i:=7) qJ.nd rfl ?A3 (Fj ?ES (Hr (c:=lt (stp c k p % 52)) ?AS (Va (pq 9 rfl) yB ?_) ?_ ?_) ?_) ?_
    .decide
    .decide +kernel
    .exact DB q hq
    .rw[sizeLine_eq];show(K0 c k p).toArray.size+1<=_;rw[yY,WP];lia
    exact y9 ⟨_,_,by rw[oC,←BF];rfl,rfl⟩
  .rintro Γ Ω ⟨x8,x9,rfl,rfl⟩;rw[jm];refine JF (i:=5) rfl ?A3 rfl ?ES (by rw[YK,yd,List.length_range,sizeLine_eq];lia) ?_;refine y9 ⟨_,_,_,_,rfl,?_⟩;rw[qw,yk];unfold yT;rw[yk];rfl
 .rintro Γ Ω ⟨x6,x7,x8,x9,rfl,rfl⟩;rw[jm];refine j6 (i:=5) rfl ?_;refine qH ?C0 ?_;rfl
variable (P w K mg base) in
abbrev tM:Prop:=OkF P w K mg base CX0 3 "_law_bodies" ["_law_dice_here", "_law_heads", "_law_words", "_law_first"] (spD K 4 ph su)
theorem Xv (z:?AM)(d:Yt K mg "_law_bodies" zV ["_law_dice_here", "_law_heads", "_law_words", "_law_first"])(Q4:?Fy) :
  tM P w K mg base:=by
 refine fL d jd rfl fun f cdv A outer s H E hr a ds hC B=>?_;obtain⟨hs,ws,fb,rfl,hw,hl,wl⟩:=hC;refine kQ (i:=4) jd.nd rfl ?A3 ?C1 fun lo=>?_;refine kE PassesOwn.never rfl (Ug z.range rfl (X2 (Yn yB ⟨_,rfl,Vp Q4 ?A2 rfl ?A9 (by simp) yB ?B ?B fun r h1 h2=>⟨r,rfl,?L6⟩⟩)));refine⟨fun i Γ Ω=>∃ (bs:List (List Str)) (x5 x6 x7 x8:Option D),bs.length<=i/\(0<i->bs≠[])/\bs.Nodup/\(∀ b∈bs,gy (hs++ws) b)/\Γ=[some (.raw (.ref a)),some ?Br,some ?DX,some (.bl fb),some ?GQ,x5,x6,x7,x8]/\Ω=[(lo,YW K ?Cv),(a,Zy)],⟨[],_,_,_,_,yg _,fun h=>absurd h ?A,Qa,fun b hb=>absurd hb (by simp),rfl,rfl⟩,?_,?_⟩
 .rintro i d Γ Ω hd ⟨bs,x5,x6,x7,x8,hbl,hb0,hbn,hbo,rfl,rfl⟩;obtain⟨hi,rfl⟩:=ik hd;refine⟨_,(Yl (i:=5) jd.nd rfl ?A3),?_⟩;refine Y2 (i:=6) jd.nd rfl ?A3 (QO yr) ?_;refine kE PassesOwn.never rfl (Ug z.range rfl (X2 (Yn yB ⟨_,rfl,A1 (Yn (eR (yc yB (yc yB (yc yB ?Pn)))) ⟨_,rfl,Vp Q4 ?A2 rfl ?A9 (by simp) yB ?B ?B fun r2 g1 g2=>?_⟩)⟩)));obtain⟨w2,w0,w3,hw2⟩:=GD g1 g2;refine⟨r2,_,rfl,hw2,w2,rfl,?L6⟩;refine⟨fun j Γ Ω=>∃ (b:List Str) (x7 x8:Option D),b.length=j/\(∀ x∈b,x∈hs++ws)/\Γ=[some (.raw (.ref a)),some ?Br,some ?DX,some (.bl fb),some ?GQ,some ?wK,some (Yd b),x7,x8]/\Ω=[(lo,YW K ?Cv),(a,Zy)],⟨[],_,_,rfl,fun x hx=>absurd hx (by simp),rfl,rfl⟩,?_,?_⟩
  .rintro j d Γ Ω hd ⟨b,x7,x8,hbj,hbx,rfl,rfl⟩;obtain⟨hj,rfl⟩:=ik hd;refine⟨_,(Yl (i:=7) jd.nd rfl ?A3),?_⟩;refine Y2 (i:=8) jd.nd rfl ?A3 (eQ ?AQ ?AS ?_) ?_
   .rw[YK,YK,sizeLine_eq];lia
   refine rY (fun Γ Ω=>∃ so:List Str,so≠[]/\so.length<=7/\(∀ x∈so,x∈hs++ws)/\Γ=[some ?Av,some ?Br,some ?DX,some (.bl fb),some ?GQ,some ?wK,some (Yd b),some ?qE,some (.lst (yT so))]/\Ω=[(lo,YW K ?Cv),(a,Zy)]) (PW3.t (dc (qI (KQ ?C0 yB)) fun _=>(wU (vF ?B9)))) ?_ ?_ ?_
   .intro _;refine Y2 (i:=8) jd.nd rfl ?A3 ?AS ?_;exact y9 ⟨ws,hw,?A,fun x hx=>yF _ hx,rfl,rfl⟩
   .intro _;refine y9 ⟨hs++ws,by simp[hw],by rw[yK];lia,fun x hx=>hx,?_,rfl⟩;rw[show yT (hs++ws)=yT hs++yT ws by unfold yT;rw[yk]];rfl
   .rintro Γ Ω ⟨so,s0,s1,s2,rfl,rfl⟩;have sp:0<so.length:=Qn.mpr s0;refine QQ (i:=6) jd.nd rfl ?A3 (Hw rS (Yn ?BO (ax (YL (A1 (Yn ?FZ ⟨_,rfl,Vp Q4 ?A2 rfl ?A9 (by simp) (Zp z.len rfl ?FZ) ?jA ?jA fun r3 c1 c2=>?_⟩))))));rw[YK] at c2;obtain⟨x,hx,ex⟩:=Dj c1 c2;refine⟨r3,_,rfl,ex,qT yr ⟨?uP,_,pL (by rw[yd,hbj,sizeLine_eq];simp;lia),?_⟩⟩;refine y9 ⟨b++[x],some ?qE,some (.lst (yT so)),by rw[yK,hbj];rfl,fun y hy=>?_,?_,rfl⟩
    .rcases Yj.mp hy with q|q
     .exact hbx y q
     .rw[yy.mp q];exact s2 x hx
    .unfold Yd;rw[yk];rfl
  .rintro Γ Ω ⟨b,x7,x8,hbj,hbx,rfl,rfl⟩;rw[bL] at hbj;have bo:gy (hs++ws) b:=⟨?A,?A,hbx⟩
   refine U4 (nI (Γ':=[some ?Av,some ?Br,some ?DX,some (.bl fb),some (.lst ?Cv),some ?wK,some (Yd b),x7,x8]) (qI (uA hr.units ?BO ?Ab ?A3 ?_)) (zl (i:=4) qV rfl (yh ..) Ko) ⟨fun hk=>?_,fun hk=>?_⟩)
   .exact lv
   .rw[aj] at hk;have hn:b∉bs:=by simpa using hk
    refine JF (i:=4) rfl ?A3 rfl ?BO (by rw[yd,sizeLine_eq];lia) ?_;refine y9 (y9 ⟨bs++[b],_,_,_,_,by rw[yK];exact Qv hbl,fun _=>by simp,?_,fun c hc=>?_,rfl,?_⟩)
    .rw[Ye];exact⟨hbn,by simp,fun x hx y hy e=>hn (by rw[←yy.mp hy,←e];exact hx)⟩
    .rcases Yj.mp hc with q|q
     .exact hbo c q
     .rw[yy.mp q];exact bo
    .rw[yk];rfl
   .rw[aj] at hk;have hn:b∈bs:=by simpa using hk
    exact y9 (y9 ⟨bs,_,_,_,_,?A,fun _=>List.ne_nil_of_mem hn,hbn,hbo,rfl,rfl⟩)
 .rintro Γ Ω ⟨bs,x5,x6,x7,x8,hbl,hb0,hbn,hbo,rfl,rfl⟩;rw[bL] at hbl hb0;refine j6 (i:=4) rfl ?_;exact qH ?Ab ⟨⟨hs,ws,fb,bs,rfl,rfl,hb0 ?A,?A,hbn,hbo⟩,rfl⟩
variable (P w K mg base) in
abbrev Bf:Prop:=OkF P w K mg base CX0 34 "_law_rules" ["_law_dice_here", "_law_heads", "_law_words"] (spD K 3 nW tQ)
theorem bD (z:?AM)(d:Yt K mg "_law_rules" zH ["_law_dice_here", "_law_heads", "_law_words"])(Q4:?Fy)(dz:tM P w K mg base)
  (JU:?GJ):Bf P w K mg base:=by
 refine fL d Jc rfl fun f cdv A outer s H E hr a ds hC B=>?_;obtain⟨hs,ws,rfl,hw,hl,wl⟩:=hC;refine kQ (i:=3) Jc.nd rfl ?A3 ?C1 fun lo=>?_;refine jF PassesOwn.never rfl (QH ?AQ) (fun i Γ Ω=>∃ (ps:List (Str×Grp)) (x4 x5 x6 x7 x8:Option D),ps.map ?C=hs.take i/\(∀ p∈ps,GrpOk (hs++ws) p.2)/\Γ=[some ?Av,some ?Br,some ?DX,some ?GQ,x4,x5,x6,x7,x8]/\Ω=[(lo,YW K (yD ?Cd)),(a,Zy)]) ⟨[],_,_,_,_,_,rfl,fun p hp=>absurd hp (by simp),rfl,rfl⟩ ?_ ?_
 .rintro i d Γ Ω hd ⟨ps,x4,x5,x6,x7,x8,hp,hg,rfl,rfl⟩;obtain⟨h,hh,rfl⟩:=je hd;have hi:i<hs.length:=(?Gh).1;have pl:ps.length<=4:=by have:=congrArg List.length hp;rw[yd,yH] at this;lia
  have fl:=WN (ps:=ps) fun p hp=>(?Gv).le;refine⟨_,(Yl (i:=4) Jc.nd rfl ?A3),?_⟩;refine QQ (i:=5) Jc.nd rfl ?A3 (nu dz ?A2 rfl ?FW (by simp) (YL (Yn ?AQ (YL (Yn ?AS (YL (GZ Eg (Vp Q4 ?A2 rfl ?FW (by simp) yB ?B ?B fun r h1 h2=>Yn yB ⟨decide (0<r),ot (g:=fun i j=>decide (j<i)),qT yr ⟨rfl,rfl,⟨hs,ws,_,rfl,hw,hl,wl⟩,fun d hd=>?_⟩⟩))))))));obtain⟨hs',ws',fb',bs,e1,rfl,hb⟩:=hd;simp only[List.cons.injEq,D.lst.injEq,and_true] at e1;obtain⟨e1,e2,-⟩:=e1;cases zM e1;cases zM e2;refine wV (i:=6) (SX:=yo zH) (XN:=["_law_dice_here", "_law_heads", "_law_words", "_law_out", "_law_head", "_law_bodies_here", "_law_weights", "_law_body", "_law_weight"]) (N:=["_law_body", "_law_dice_here"]) (nt:=1) (caps:=[0]) ?DI Jc.nd rfl ?A3 (bO (QH ?C0) ?_);refine⟨fun m gs Ω'=>m<=3/\∃ ns:List Int,ns.length=m/\gs=ns.map D.int/\(∀ x∈ns,1<=x/\x<=5)/\Ω'=[(lo,YW K (yD ?Cd)),(a,Zy)],⟨by lia,[],rfl,rfl,fun x hx=>absurd hx (by simp),rfl⟩,?_,?_,?_⟩
  .rintro m gs Ω' ⟨hm,ns,hn,rfl,_⟩;rw[yd,hn,sizeLine_eq];lia
  .rintro c m d gs Ω' hd ⟨hm,ns,hn,rfl,hx,rfl⟩;have hm':m<bs.length:=by have:=(?Gs).1;rwa [yd] at this
   have hb3:=hb.2.1;refine⟨_,(Yl (i:=0) (show List.Nodup (α:=Str) ["_law_body", "_law_dice_here"] by decide +kernel) rfl ?A3),?CE,fun q=>X2 (Yn yB ⟨_,rfl,Vp Q4 ?A2 rfl ?EF (by simp) yB ?B ?B fun r h1 h2=>⟨r,rfl,_,?AV,?A,ns++[1+r],by rw[yK,hn];rfl,by rw[yk];rfl,fun x hx'=>?_,rfl⟩⟩)⟩;rcases Yj.mp hx' with y|y
   .exact hx x y
   .rw[yy.mp y];lia
  .rintro lp gs Ω' ⟨-,ns,hn,rfl,hx,rfl⟩;rw[yd] at hn;refine j6 (i:=6) rfl ?_;have gk:=FT hb hn hx;refine jF PassesOwn.never rfl (fx z.zip rfl ?C0 ?BO) (fun j Γ Ω=>∃ x7 x8:Option D,Γ=[some ?Av,some ?Br,some ?DX,some ?GQ,some (.str h),some (.lst ?Cv),some (.lst ?GT),x7,x8]/\Ω=[(lo,YW K (yD (vk ps++grp h (((?FK).map fun p=>?jV).take j)))),(a,Zy)]) ⟨_,_,rfl,by simp[grp]⟩ ?_ ?_
   .rintro j d Γ Ω hd ⟨x7,x8,rfl,rfl⟩;obtain⟨b,n,hbn,rfl⟩:=oN hd;have hj:j<(bs.zip ns).length:=(yi.mp hbn).1;have hnm:=hx n (QG (yx hbn)).2;have hw0:0<ns.sum:=by
     have:=rH hx;have b0:0<bs.length:=Qn.mpr hb.1;lia
    have gl:=gk.le;refine⟨_,(vo rfl (qh (Yl (i:=7) Jc.nd rfl ?A3) (qh (Yl (i:=8) Jc.nd rfl ?A3) zD))),?_⟩;refine JF (i:=3) rfl ?A3 rfl (QO (yc ?Ab (yc ?ES (yc (Yp (d:=sh ?Hi) JU ?A2 rfl (yc ?FZ (yc (G6 rfl z.sum rfl ?BO) yr)) ⟨n,ns.sum,rfl,rfl,?A,hw0⟩) yr)))) ?_ ?_
    .rw[YF,yK,sizeLine_eq];unfold grp;rw[yd,yH];lia
    .refine y9 ⟨_,_,rfl,?_⟩;rw[Yg (l:=(?FK).map fun p=>?jV) (x:=(b,?Hi)) (by rw[yz,hbn];rfl),lu];rfl
   .rintro Γ Ω ⟨x7,x8,rfl,rfl⟩;refine y9 ⟨ps++[(h,(?FK).map fun p=>?jV)],_,_,_,_,_,?_,fun p hp'=>?_,rfl,?_⟩
    .rw[yk,hp,Yg hh];rfl
    .rcases Yj.mp hp' with q|q
     .exact hg p q
     .rw[yy.mp q];exact gk
    .rw[oa,List.take_of_length_le (by rw[yd];exact yg _)];unfold vk
     rw[Qk];simp
 .rintro Γ Ω ⟨ps,x4,x5,x6,x7,x8,hp,hg,rfl,rfl⟩;rw[YK,yI] at hp;refine j6 (i:=3) rfl ?_;exact qH ?B9 ⟨⟨hs,ws,ps,rfl,rfl,hp,hg⟩,rfl⟩
variable (P w K mg base) in
abbrev A2:Prop:=OkF P w K mg base CX0 35 "_law_made" ["_law_cell", "_law_other", "_law_most"] (UC K)
theorem dI (z:?AM)(d:Yt K mg "_law_made" vd ["_law_cell", "_law_other", "_law_most"])(XA:sj P w K mg base)(uj:?KK)(Q4:?Fy)
  (f8:Bf P w K mg base):A2 P w K mg base:=by
 refine Ca d ZE rfl fun f cdv A outer s H E hr c o m h1 h2 B hB=>?_;refine Y2 (i:=3) ZE.nd rfl ?A3 (Yp (d:=.lst (yT ((List.range (m+3)).map (KL o)))) XA ?A2 rfl (yc ?AQ (yc (zf ?AS yB) yr)) ?_) ?_
 .exact⟨o,m+3,by push_cast;rfl,rfl,?A⟩
 have sl:((List.range (m+3)).map (KL o)).length=m+3:=by simp
 have nd:=ie (c:=o) (n:=m+3) ?A;have sy:∀ x∈(List.range (m+3)).map (KL o),V4 x:=fun x hx=>by
  obtain⟨k,_,rfl⟩:=yn.mp hx;exact Ey o k
 generalize (List.range (m+3)).map (KL o)=ss at sl nd sy;refine QQ (i:=4) ZE.nd rfl ?A3 (Af uj ?A2 rfl ?A9 fun l=>?_);refine QQ (i:=5) ZE.nd rfl ?A3 (CJ ?B9 (X2 (Yn yB ⟨_,rfl,Vp Q4 ?A2 rfl ?Ab (by simp) ?AS ?A ?A fun r g1 g2=>⟨r,rfl,_,rfl,?_⟩⟩)));obtain⟨n,rfl⟩:=YJ g1;rw[show(1:Int)+((n:Nat):Int)=((1+n:Nat):Int) by push_cast;rfl,WJ ?jA,XM];refine QQ (i:=6) ZE.nd rfl ?A3 (eO ?B9 ?AS (X2 (Yn (zf ?AS yB) ⟨_,rfl,Vp Q4 ?A2 rfl ?Ab (by simp) yB ?B ?B fun r2 g3 g4=>⟨r2,rfl,_,rfl,?_⟩⟩)));obtain⟨n2,rfl⟩:=YJ g3;rw[show(m:Int)+1+((n2:Nat):Int)=((m+1+n2:Nat):Int) by push_cast;rfl,CB ?jA ?jA,pQ,XM,show m+1+n2 - m=1+n2 by lia];have nd2:(ss.take (1+n)++(ss.drop m).take (1+n2)).Nodup:=by
  rw[Ye];refine⟨nd.sublist (jB _ _),nd.sublist ((jB _ _).trans (List.drop_sublist _ _)),fun x hx y hy e=>?_⟩;subst e;have hy':=YO hy;have hx':x∈ss.take m:=(List.take_subset_take_left ss ?A) hx;have nd':=nd;rw[←Q8 m ss,Ye] at nd';exact nd'.2.2 x hx' x hy' rfl
 have sy2:∀ x∈ss.take (1+n)++(ss.drop m).take (1+n2),V4 x:=fun x hx=>by
  rcases Yj.mp hx with q|q
  .exact sy x (YO q)
  .exact sy x (List.mem_of_mem_drop (YO q))
 have l1:(ss.take (1+n)).length=1+n:=by rw[yH,sl];lia
 have l2:((ss.drop m).take (1+n2)).length=1+n2:=by rw[yH,j7,sl];lia
 generalize ss.take (1+n)=hs at nd2 sy2 l1;generalize (ss.drop m).take (1+n2)=ws at nd2 sy2 l2;have h0:hs≠[]:=fun e=>by rw[e,qb] at l1;lia
 have w0:ws≠[]:=fun e=>by rw[e,qb] at l2;lia
 refine vp (ax (YL (Yn ?C0 (YL (Yn ?BO (YL (nu f8 ?A2 rfl ?Ab (by simp) (qT (yc ?C0 (yc ?BO yr)) ⟨rfl,rfl,⟨hs,ws,rfl,w0,?A,?A⟩,fun d hd=>?PL⟩))))))));obtain⟨hs',ws',ps,e1,rfl,hp,hg⟩:=hd;simp only[List.cons.injEq,D.lst.injEq,and_true] at e1;cases zM e1.1;cases zM e1.2;exact⟨hs,ws,?Cd,CY nd2 sy2 h0 w0 ?A ?A hp hg,?A,rfl⟩
variable (P w K mg base) in
abbrev BI:Prop:=OkF P w K mg base CX0 3 "_law_row" ["_law_cell", "_law_words", "_law_most"] (spR K 3 Fk Ef)
theorem gm (z:?AM)(d:Yt K mg "_law_row" Z6 ["_law_cell", "_law_words", "_law_most"])(uj:?KK)(Q4:?Fy):BI P w K mg base:=by
 refine Bd d WU rfl fun f cdv A outer s H E hr ds hC B hB=>?_;obtain⟨c,ws,m,rfl,w0,wl,m1,m5⟩:=hC;have wp:0<ws.length:=Qn.mpr w0;refine QQ (i:=3) WU.nd rfl ?By (Af uj ?A2 rfl ?A9 fun l=>?_);refine vp (sx z.tuple rfl (V3.frozen (Fu (SX:=yo Z6) (XN:=["_law_cell", "_law_words", "_law_most", "_law_dice_here"]) (N:=["_law_k", "_law_words", "_law_dice_here"]) (nt:=1) (caps:=[1,3]) ?DI (Ug z.range rfl (X2 (Yn yB ⟨_,rfl,Vp Q4 ?A2 rfl (pqc 3 rfl) (by simp) ?AS ?A ?A fun r h1 h2=>⟨r,rfl,?L6⟩⟩))))));refine⟨fun j gs Ω'=>j<=5/\∃ row:List Str,row.length=j/\gs=row.map D.str/\(∀ x∈row,x∈ws)/\Ω'=[(l,Zy)],⟨by lia,[],rfl,rfl,fun x hx=>absurd hx (by simp),rfl⟩,?_,?_,?_⟩
 .rintro j gs Ω' ⟨hj,row,hl,rfl,_⟩;rw[yd,hl,sizeLine_eq];lia
 .rintro cc j d gs Ω' hd ⟨hj,row,hl,rfl,hx,rfl⟩;obtain⟨hi,rfl⟩:=ik hd;refine⟨_,(Yl (i:=0) (show List.Nodup (α:=Str) ["_law_k", "_law_words", "_law_dice_here"] by decide +kernel) rfl ?A3),?CE,fun q=>A1 (Yn ?EF ⟨_,rfl,Vp Q4 ?A2 rfl ?Cz (by simp) (Zp z.len rfl ?EF) ?jA ?jA fun r3 c1 c2=>?_⟩)⟩;rw[YK] at c2;obtain⟨x,hx',ex⟩:=Dj c1 c2;refine⟨r3,_,rfl,ex,_,?AV,?A,row++[x],by rw[yK,hl];rfl,by rw[yk];rfl,fun y hy=>?_,rfl⟩;rcases Yj.mp hy with q|q
  .exact hx y q
  .rw[yy.mp q];exact hx'
 .rintro a gs Ω' ⟨-,row,hl,rfl,hx,rfl⟩;rw[bL] at hl;exact⟨a,_,_,rfl,rfl,_,rfl,FU ?A ?A hx⟩
variable (P w K mg base) in
abbrev sq:Prop:=OkF P w K mg base CX0 4 "_law_counted" ["_law_script", "_law_words"] (spR K 2 iH pJ)
theorem xo (z:?AM)(d:Yt K mg "_law_counted" zr ["_law_script", "_law_words"])(qO:?MA)(aM:BI P w K mg base):sq P w K mg base:=by
 refine Bd d zX rfl fun f cdv A outer s H E hr ds hC B hB=>?_;obtain⟨ns,ws,rfl,w0,wl⟩:=hC;refine zO (qI (KQ (Va (Yp (d:=.int ?J4) qO ?A2 rfl (yc (pq 0 rfl) ?C8) ?_) yB ?_) yB)) ?_ ?_
 .exact⟨ns,3,rfl,rfl⟩
 .decide
 .intro _;obtain⟨n,en,n1,n9⟩:=mj (ns.getD 7 0);refine vp (GF (YL (ax (YL (cZ aM ?A2 rfl (yc (Yp (d:=.int (ns.getD 5 0)) qO ?A2 rfl (yc (pq 0 rfl) ?C8) ⟨ns,5,rfl,rfl⟩) (yc (pq 1 rfl) ?C8)) ⟨ns.getD 5 0,ws,4,rfl,w0,wl,?B,?B⟩ fun d hd=>qT (yc (zf yB (Va (Yp (d:=.int (ns.getD 7 0)) qO ?A2 rfl (yc (pq 0 rfl) ?C8) ⟨ns,7,rfl,rfl⟩) yB ?B)) yr) ⟨?uP,?PL⟩)))));obtain⟨row,rfl,r1,r4,_⟩:=hd _ ws 4 rfl;refine⟨[(row,n)],?_,Nat.le_of_ble_eq_true rfl,fun c hc=>?_⟩
  .rw[en];rfl
  .rw[yy.mp hc];exact⟨n1,n9,r1,r4⟩
 .intro _;refine ?B2;refine kQ (i:=2) zX.nd rfl (.inl rfl) ?C1 fun l=>?_;have m2:=zZ (a:=ns.getD 4 0) (show(0:Int)<2 by decide);obtain⟨n,en⟩:∃ n:Nat,1+ns.getD 4 0 % 2=(n:Int):=⟨(1+ns.getD 4 0 % 2).toNat,?A⟩
  have n2:n<=2:=by lia
  refine jF PassesOwn.never rfl (zS (n:=n) z.range rfl (zf yB (Va (Yp (d:=.int (ns.getD 4 0)) qO ?A2 rfl (yc (pq 0 rfl) ?C8) ?_) yB ?_)) ?_ ?_) (fun i Γ Ω=>∃ (cs:Ct) (x3 x4:Option D),cs.length=i/\EZ cs/\Γ=[some (.scr ns),some (.lst ?Bi),some (.raw (.ref l)),x3,x4]/\Ω=[(l,YW K ?BD)]) ⟨[],_,_,rfl,⟨?B,fun c hc=>absurd hc (by simp)⟩,rfl,rfl⟩ ?_ ?_
  .exact⟨ns,4,rfl,rfl⟩
  .decide
  .exact en
  .lia
  .rintro i d Γ Ω hd ⟨cs,x3,x4,hl,hc,rfl,rfl⟩;obtain⟨hi,rfl⟩:=zu hd;rw[qp];obtain⟨n',en',n1,n9⟩:=mj (ns.getD (7+i) 0);refine⟨_,(Yl (i:=3) zX.nd rfl (.inl rfl)),?_⟩;refine QQ (i:=4) zX.nd rfl (.inl rfl) (cZ aM ?A2 rfl (yc (Yp (d:=.int (ns.getD (5+i) 0)) qO ?A2 rfl (yc (pq 0 rfl) (yc (zf yB (pq 3 rfl)) yr)) ⟨ns,5+i,by push_cast;rfl,rfl⟩) (yc (pq 1 rfl) ?C8)) ⟨ns.getD (5+i) 0,ws,2,rfl,w0,wl,?B,?B⟩ fun d hd=>?_);obtain⟨row,rfl,r1,r2,_⟩:=hd _ ws 2 rfl;refine JF (i:=2) rfl (.inl rfl) rfl (QO (yc (pq 4 rfl) (yc (zC (d:=.int (n':Int)) (zf yB (Va (Yp (d:=.int (ns.getD (7+i) 0)) qO ?A2 rfl (yc (pq 0 rfl) (yc (zf yB (pq 3 rfl)) yr)) ⟨ns,7+i,by push_cast;rfl,rfl⟩) yB ?B)) (by rw[en'])) yr))) (by rw[uJ,sizeLine_eq];lia) ?_;refine y9 ⟨cs++[(row,n')],_,_,by rw[yK,hl];rfl,⟨by rw[yK];show _+1<=2;lia,fun c hc'=>?_⟩,rfl,?_⟩
   .rcases Yj.mp hc' with q|q
    .exact hc.2 c q
    .rw[yy.mp q];exact⟨n1,n9,r1,yU r2 ?B⟩
   .unfold z9;rw[yk];rfl
  .rintro Γ Ω ⟨cs,x3,x4,hl,hc,rfl,rfl⟩;refine j6 (i:=2) rfl ?_;exact qH (pq 2 rfl) ⟨cs,rfl,hc⟩
end
section
variable {P:?A6}{w:?A5}{K:?A1}{mg:?G}{base:Heap}{C_Grammar C_Sums C_Parts:Addr}
variable (P w K mg base C_Grammar) in
abbrev sL:Prop:=OkF P w K mg base CX0 53 "_law_counts" ["_law_grammar", "_law_rules_here", "_law_counted_here"] (spP K 3 (HI C_Grammar))
theorem Xm (z:?AM)(yP:?BL)(yZ:?D4)(d:Yt K mg "_law_counts" J0 ["_law_grammar", "_law_rules_here", "_law_counted_here"])(dj:?LT)(VQ:?JH)(kZ:?KQ)(f7:A5 P w K mg base):?Pj:=by
 refine YS d Jn rfl fun f cdv A outer s H E hr ds r hC B hB=>?_;obtain⟨st,rs,cs,U,rfl,rfl,ok,l12⟩:=hC;have big':big=67108864:=rfl;refine wV (i:=3) (SX:=yo J0) (XN:=["_law_grammar", "_law_rules_here", "_law_counted_here", "_law_counts_here", "_law_row_here", "_law_many", "_law_parts", "_law_k"]) (N:=["_law_rule"]) (nt:=1) (caps:=[]) ⟨rfl,?E,?E,?E,rfl,?E⟩ Jn.nd rfl (.inl rfl) (bO (QH (pq 1 rfl)) ⟨fun k gs Ω'=>k<=rs.length/\gs=((?EC).map fun _=>sh 0)/\Ω'=[],⟨YC _,rfl,rfl⟩,?_,?_,?_⟩)
 .rintro k gs Ω' ⟨hk,rfl,_⟩;rw[yd,yH,sizeLine_eq];lia
 .rintro c k d gs Ω' hd ⟨hk,rfl,rfl⟩;obtain⟨r,hr',rfl⟩:=QC hd;have hk':k<rs.length:=(?Da).1;refine⟨_,(Yl (i:=0) (show List.Nodup (α:=Str) ["_law_rule"] by decide +kernel) rfl (.inl rfl)),(Sub.set rfl),fun l=>Yn (zC (d:=sh 0) ?Gf rfl) ⟨[],?AV,?A,?_,rfl⟩⟩;rw[Yg hr',yk];rfl
 rintro l gs Ω' ⟨-,rfl,rfl⟩;rw[YF,yI];refine jF PassesOwn.never rfl (QH (pq 2 rfl)) (fun i Γ Ω=>∃ x4 x5 x6 x7,Γ=[some ?BX,some (.lst ?AO),some (.lst ?BD),some (.raw (.ref l)),x4,x5,x6,x7]/\Ω=[(l,YW K (rs.map fun r=>?FT))]) ⟨_,_,_,_,rfl,rfl⟩ ?_ ?_
 .rintro i d Γ Ω hd ⟨x4,x5,x6,x7,rfl,rfl⟩;obtain⟨c,hc,rfl⟩:=W7 hd;have hi:i<cs.length:=(yi.mp hc).1;have hcm:=yx hc;obtain⟨_,c9,M,b,s',o,_⟩:=ok.c c hcm;have ou:=ok.u;have ol:=ok.l;refine⟨_,(vo rfl (qh (Yl (i:=4) Jn.nd rfl (.inl rfl)) (qh (Yl (i:=5) Jn.nd rfl (.inl rfl)) zD))),?_⟩;refine QQ (i:=6) Jn.nd rfl (.inl rfl) (cA .inl dj ?A2 rfl (yc (pq 0 rfl) (yc (pq 4 rfl) yr)) (fun _=>rfl) (fun a=>⟨a,st,rs,c.1,M,b,s',rfl,rfl,o⟩) fun a t' d h=>?_);obtain⟨rfl,h⟩:=h;obtain⟨kb,hd',sa,sb,sc,kw,M,b,s',rfl,pu⟩:=h a st rs c.1 rfl;refine⟨rfl,kK (Yu (l₁:=[_])) ?_⟩;refine jF PassesOwn.never rfl (zS (n:=rs.length) z.range rfl (Zp z.len rfl (pq 1 rfl)) ?_ ?_) (fun k Γ Ω=>∃ x7 kw,Γ=[some ?BX,some (.lst ?AO),some (.lst ?BD),some (.raw (.ref l)),some (Yd c.1),some (.int (c.2:Int)),some (.raw (.ref a)),x7]/\Ω=(l,YW K ((?EC).map (fun r=>?qH)++(?Gd).map fun r=>?FT))::omU P w K C_Parts C_Sums C_Grammar ⟨a,kb,hd',sa,sb,sc,st,rs,c.1,kw,M,b,s'⟩/\PuOk k ⟨a,kb,hd',sa,sb,sc,st,rs,c.1,kw,M,b,s'⟩) ⟨_,kw,rfl,rfl,pu⟩ ?_ ?_
  .rw[YF]
  .lia
  .rintro k d Γ Ω hd ⟨x7,kw,rfl,rfl,pk⟩;obtain⟨hk,rfl⟩:=zu hd;rw[qp];obtain⟨r,hr'⟩:∃ r,rs[k]?=some r:=⟨_,yl hk⟩
   have hrm:=yx hr';have u:=cG ok hcm hrm;have cz:=cW ok hrm i ?A;have e9:i*(U+5)<=2*1000005:=qt ?A ?A;have m0:(0:Rat)<=((c.2:Nat):Rat)/\Sz 4 ((c.2:Nat):Rat):=⟨cy,a9 c9⟩
   obtain⟨s1,s2,s3⟩:=BC (f:=fun r=>?qH) (g:=fun r=>?FT) hr';rw[←s2];generalize (?EC).map (fun r=>?qH)++(?Gd).map (fun r=>?FT)=ls at *;refine⟨_,(Yl (i:=7) Jn.nd rfl (.inl rfl)),?_⟩;refine pP (Ux kZ ?A2 rfl (YL (kL (L:=?AN) (d:=?FT) (Γ':=[some ?BX,some (.lst ?AO),some (.lst ?BD),some (.lst ls),some (Yd c.1),some (.int (c.2:Int)),some (.raw (.ref a)),some (.int (k:Int))]) (JL (pq 3 rfl) (pq 7 rfl) (JX s1)) (zl (i:=3) qV rfl yh Ko) (qW vm xH) rfl (YL (Ux f7 ?A2 rfl (YL (Yn (zC (d:=sh ((c.2:Nat):Rat)) (QO (yc (pq 5 rfl) ?C8)) ?_) (YL (ZQ ⟨a,kb,hd',sa,sb,sc,st,rs,c.1,kw,M,b,s'⟩ [(l,YW K ls)] (fs:=pF) (gs:=pDU ⟨a,kb,hd',sa,sb,sc,st,rs,c.1,kw,M,b,s'⟩) VQ yZ.c ?A2 (Yn (pq 6 rfl) ⟨rfl,?BC,qT (yc (pq 7 rfl) yr) ⟨Yu (l₁:=[_]),⟨k,r,k,rfl,hr',pk,?A⟩,rfl,?_⟩⟩) KU)))))))))
   .rfl
   rintro t' d hC;obtain⟨rfl,kw',rfl,hp⟩:=hC k r rfl hr';refine qT yr ⟨sh ?kV,⟨((c.2:Nat):Rat),KI rs st c.1 r,4,U,rfl,rfl,m0.1,u.1,m0.2,u.2,?A,?A,?Bx⟩,rfl,qT yr ⟨?qH,⟨?H0,?kV,1+i*(U+5),4+U,rfl,by rw[gX hc],cz.1,ZB m0.1 u.1,cz.2,K7 m0.2 u.2,by lia,by lia,trivial⟩,rfl,Yn (pq 3 rfl) ⟨l,rfl,Yn (pq 7 rfl) ⟨(k:Int),k,ls,_,rfl,Yu (l₂:=[_]),s3,y9 ⟨_,kw',rfl,rfl,hp k pk⟩⟩⟩⟩⟩
  .rintro Γ Ω ⟨x7,kw,rfl,rfl,pk⟩;rw[jm,yI,List.drop_length,ji,yM];exact cK (Ω':=[_]) (Ω5:=_) ?AV (y9 ⟨_,_,_,_,rfl,rfl⟩)
 .rintro Γ Ω ⟨x4,x5,x6,x7,rfl,rfl⟩;rw[uJ,yI];refine j6 (i:=3) rfl ?_;exact qH (pq 3 rfl) rfl
variable (P w K mg base) in
abbrev sG:Prop:=OkF P w K mg base CX0 36 "_law_due" ["_law_rules_here", "_law_counts_here"] (spP K 2 E9)
theorem ia (z:?AM)(d:Yt K mg "_law_due" Vg ["_law_rules_here", "_law_counts_here"])(kZ:?KQ)(JU:?GJ):sG P w K mg base:=by
 refine YS d zA rfl fun f cdv A outer s H E hr ds r hC B hB=>?_;obtain⟨rs,f',rfl,rfl,l12,hf⟩:=hC;have big':big=67108864:=rfl;have atf:∀ {k:Nat} {r:yC},rs[k]?=some r->atI (rs.map fun r=>?E7) (k:Int)=some ?E7:=fun {k r} h=>JX (by rw[yz,h];rfl)
 have atr:∀ {k:Nat} {r:yC},rs[k]?=some r->atI ?AO (k:Int)=some (jS r):=fun {k r} h=>JX (by unfold yD;rw[yz,h];rfl)
 refine kQ (i:=2) zA.nd rfl (.inl rfl) ?C1 fun l=>?_;refine jF PassesOwn.never rfl (zS (n:=rs.length) z.range rfl (Zp z.len rfl (pq 0 rfl)) ?_ ?_) (fun i Γ Ω=>∃ x3 x4 x5 x6,Γ=[some (.lst ?AO),some (.lst (rs.map fun r=>?E7)),some (.raw (.ref l)),x3,x4,x5,x6]/\Ω=[(l,YW K (yD ((?B8).flatMap (Jd f' (js f' rs)))))]) ⟨_,_,_,_,rfl,rfl⟩ ?_ ?_
 .rw[YF]
 .lia
 .rintro i d Γ Ω hd ⟨x3,x4,x5,x6,rfl,rfl⟩;obtain⟨hi,rfl⟩:=zu hd;rw[qp];obtain⟨r,hr'⟩:∃ r,rs[i]?=some r:=⟨_,yl hi⟩
  have hrm:=yx hr';have cr:=hf r hrm;have fl:((rs.take i).flatMap (Jd f' (js f' rs))).length<sizeLine:=by
   have:=uy (f:=f') (S:=js f' rs) (rs:=?B8);rw[yH] at this;rw[sizeLine_eq];lia
  have nx:(rs.take (i+1)).flatMap (Jd f' (js f' rs))=(rs.take i).flatMap (Jd f' (js f' rs))++Jd f' (js f' rs) r:=by rw[Yg hr',Qk];simp
  rw[show Jd f' (js f' rs) r=if js f' rs r.1=0 then [r] else if f' r=0 then [] else [(r.1,r.2.1,f' r / js f' rs r.1)] from rfl] at nx;generalize (?B8).flatMap (Jd f' (js f' rs))=fo at *;refine⟨_,(Yl (i:=3) zA.nd rfl (.inl rfl)),?_⟩;refine Y2 (i:=4) (d:=sh 0) zA.nd rfl (.inl rfl) (zC ?Gf rfl) ?_;refine jF PassesOwn.never rfl (zS (n:=rs.length) z.range rfl (Zp z.len rfl (pq 0 rfl)) ?_ ?_) (fun j Γ Ω=>∃ x5,Γ=[some (.lst ?AO),some (.lst (rs.map fun r=>?E7)),some (.raw (.ref l)),some (.int (i:Int)),some (sh (js f' ?DS r.1)),x5,x6]/\Ω=[(l,YW K (yD fo))]) ⟨_,rfl,rfl⟩ ?_ ?_
  .rw[YF]
  .lia
  .rintro j d Γ Ω hd ⟨x5,rfl,rfl⟩;obtain⟨hj,rfl⟩:=zu hd;rw[qp];obtain⟨q,hq⟩:∃ q,rs[j]?=some q:=⟨_,yl hj⟩
   have hqm:=yx hq;have cq:=hf q hqm;have sz:=VD (f:=f') (h:=r.1) (rs:=?DS) (n:=?FR) fun x hx=>hf x (YO hx);rw[yH] at sz;have sn:js f' (rs.take (j+1)) r.1=js f' (rs.take j) r.1+if q.1=r.1 then f' q else 0:=by rw[Yg hq];exact Ki
   generalize js f' ?DS r.1=t at *;refine⟨_,(Yl (i:=5) zA.nd rfl (.inl rfl)),?_⟩;refine zO (qI (XV (Yr (JL (d:=jS q) (pq 0 rfl) (pq 5 rfl) ?_) yB rfl) (Yr (JL (d:=jS r) (pq 0 rfl) (pq 3 rfl) ?_) yB rfl))) ?_ ?_
   .exact atr hq
   .exact atr hr'
   .intro hk;have hk:=of_decide_eq_true hk;refine Y2 (i:=4) zA.nd rfl (.inl rfl) (Yp (d:=sh (t+f' q)) kZ ?A2 rfl (yc (pq 4 rfl) (yc (JL (d:=sh (f' q)) (pq 1 rfl) (pq 5 rfl) ?_) yr)) ?_) ?_
    .exact atf hq
    .exact⟨t,f' q,1+j*2000012,?FR,rfl,rfl,sz.1,cq.1,sz.2.mono ?A,cq.2,?A,?A,?Bx⟩
    refine y9 (y9 ⟨some (.int (j:Int)),?_,rfl⟩);rw[sn,yf hk];rfl
   .intro hk;have hk:=of_decide_eq_false hk;refine y9 (y9 ⟨some (.int (j:Int)),?_,rfl⟩);rw[sn,ye hk,Rat.add_zero];rfl
  .rintro Γ Ω ⟨x5,rfl,rfl⟩;rw[jm,yI];have sr:=VD (f:=f') (h:=r.1) hf;have sr2:Sz 24000145 (js f' rs r.1):=sr.2.mono ?A;have sr1:=sr.1
   clear sr
   generalize js f' rs r.1=S at *;refine zO (qI (Xq hr.units (pq 4 rfl) (zC (d:=sh 0) ?Gf rfl) Ja Jg)) ?_ ?_
   .intro hk;rw[QL] at hk;have hk:=of_decide_eq_true hk;refine JF (i:=2) rfl (.inl rfl) rfl (JL (pq 0 rfl) (pq 3 rfl) (atr hr')) ?xV ?_;refine y9 (y9 ⟨_,_,_,_,rfl,?_⟩);rw[nx,yf hk];unfold yD;rw[yk];rfl
   .intro hk;rw[QL] at hk;have hS:=of_decide_eq_false hk;have sp:0<S:=by grind
    refine zO (qI (Xn hr.units (JL (pq 1 rfl) (pq 3 rfl) (atf hr')) (zC (d:=sh 0) ?Gf rfl) Ja Jg)) ?_ ?_
    .intro hk;have hk':qD (sh (f' r)) (sh 0)=false:=by simpa using hk
     rw[QL] at hk';have hc:=of_decide_eq_false hk';have np:=My.q_num_pos sp;refine Y2 (i:=6) zA.nd rfl (.inl rfl) (Yp (d:=sh (f' r / S)) JU ?A2 rfl (yc (JM (Yr (JL (d:=?E7) (pq 1 rfl) (pq 3 rfl) ?_) yB rfl) (Yr (pq 4 rfl) yB rfl) ?_) (yc (JM (Yr (JL (d:=?E7) (pq 1 rfl) (pq 3 rfl) ?_) yB rfl) (Yr (pq 4 rfl) yB rfl) ?_) yr)) ?_) ?_
     .exact atf hr'
     .exact JZ cr.2.1 (j9 sr2) ?A
     .exact atf hr'
     .exact JZ (j9 cr.2) sr2.1 ?A
     .exact⟨_,_,rfl,by rw[My.q_div],QD (My.q_num_nn cr.1) (yN (My.den_pos' _)),Qm (My.den_pos' _) np⟩
     refine JF (i:=2) rfl (.inl rfl) rfl (d:=jS (r.1,r.2.1,f' r / S)) (QO (yc (Yr (JL (pq 0 rfl) (pq 3 rfl) (atr hr')) yB rfl) (yc (Yr (JL (pq 0 rfl) (pq 3 rfl) (atr hr')) yB rfl) (yc (pq 6 rfl) yr)))) ?xV ?_;refine y9 (y9 (y9 ⟨_,_,_,_,rfl,?_⟩));rw[nx,ye hS,ye hc];unfold yD;rw[yk];rfl
    .intro hk;have hk':qD (sh (f' r)) (sh 0)=true:=by simpa using hk
     rw[QL] at hk';have hc:=of_decide_eq_true hk';refine y9 (y9 (y9 ⟨_,_,_,_,rfl,?_⟩));rw[nx,ye hS,yf hc,yM]
 .rintro Γ Ω ⟨x3,x4,x5,x6,rfl,rfl⟩;rw[jm,yI];refine j6 (i:=2) rfl ?_;exact qH (pq 2 rfl) rfl
end
section
variable {P:?A6}{w:?A5}{K:?A1}{mg:?G}{base:Heap}{C_Grammar C_Sums C_Parts:Addr}
theorem Gw (z:?AM)(yP:?BL)(Vm:InsK K C_Grammar)(y8:?BM)(F:Fun K "law" "law" d8 f fd)(qO:?MA)(lF:A2 P w K mg base)(XB:sq P w K mg base)(dw:?Pj)(p6:sG P w K mg base)(KB:?JY)(qP:?F8)(Q5:?GS)(Jj:?IB)(BX:?Pk)(lD:OkI P w K mg base CX0 49 "Sums" C_Sums ["self", "grammar", "row"] (Gf K 3 C_Sums (fS C_Grammar) (bH C_Grammar)))(Ze:?IP):FnOk P w K mg base CX0 56 f fd ["_law_script"] (Up K):=by
 refine CG (k:=55) F zE fun cdv A outer s H E hr ns hlen B hB=>?_;have m3:=zZ (a:=?J4) (show(0:Int)<3 by decide);obtain⟨m,hm,m1,m2⟩:∃ m:Nat,atI [D.int 2,.int 2,.int 1] (ns.getD 3 0 % 3)=some ?qC/\1<=m/\m<=2:=by
  rcases (show ns.getD 3 0 % 3=0∨ns.getD 3 0 % 3=1∨ns.getD 3 0 % 3=2 by lia) with e|e|e <;> rw[e]
  .exact⟨2,rfl,?B,?B⟩
  .exact⟨2,rfl,?B,?B⟩
  .exact⟨1,rfl,?B,?B⟩
 refine Y2 (i:=1) (d:=?qC) zE.nd rfl ?A3 (JL (eR ?Pn) (Va (Yp (d:=.int ?J4) qO ?A2 rfl ?Gx ⟨ns,3,rfl,rfl⟩) yB ?B) hm) ?_;refine F7 (Gc (m:=m) lF ?A2 rfl (Yp (d:=.int (ns.getD 0 0)) qO ?A2 rfl ?Gx ⟨ns,0,rfl,rfl⟩) (Yp (d:=.int (ns.getD 1 0)) qO ?A2 rfl ?Gx ⟨ns,1,rfl,rfl⟩) ?AQ m1 ?A fun hs ws rs0 g0 hl=>⟨_,(vo rfl (qh (Yl (i:=2) zE.nd rfl ?A3) (qh (Yl (i:=3) zE.nd rfl ?A3) (qh (Yl (i:=4) zE.nd rfl ?A3) zD)))),?_⟩);obtain⟨h0,hh0⟩:∃ h0,hs[0]?=some h0:=⟨_,yl (Qn.mpr g0.h0)⟩
 have a0:atI (yT hs) 0=some (.str h0):=by
  refine JX (j:=0) ?_;unfold yT;rw[yz,hh0];rfl
 have rp:0<rs0.length:=Qn.mpr g0.r0;have rl0:=g0.rl;have lr:(yD rs0).length=rs0.length:=YF;have mm:=zZ (a:=ns.getD 10 0) (b:=(((yD rs0).length:Nat):Int)) (by rw[lr];lia);obtain⟨a,ha⟩:=YJ mm.1;have ha:ns.getD 10 0 % (((yD rs0).length:Nat):Int)=(a:Int):=ha;rw[ha,lr] at mm;have hal:a<rs0.length:=by lia
 refine Y2 (i:=5) (d:=.int (a:Int)) zE.nd rfl ?A3 (zC (Va (Yp (d:=.int (ns.getD 10 0)) qO ?A2 rfl ?Gx ⟨ns,10,rfl,rfl⟩) (Zp z.len rfl ?Ab) (by rw[lr];lia)) (by rw[ha])) ?_;have c1:vQ (yD rs0) none (some (a:Int))=yD (rs0.take a):=by rw[WJ (by rw[lr];lia)];unfold yD;rw[List.map_take]
 have c2:vQ (yD rs0) (some (a:Int)) none=yD (rs0.drop a):=by rw[xj (by rw[lr];lia)];unfold yD;rw[List.map_drop]
 have c3:yD (rs0.drop a)++yD (rs0.take a)=yD (rs0.drop a++rs0.take a):=by unfold yD;rw[yk]
 refine Y2 (i:=4) (d:=.lst (yD (rs0.drop a++rs0.take a))) zE.nd rfl ?A3 (zC (eQ (PF3.p (ko ?Ab (VA ?C0) VL)) (PF3.p (ko ?Ab VL (VA ?C0))) ?_) ?_) ?_
 .rw[c1,c2,YF,YF,yH,j7,sizeLine_eq];lia
 .rw[c1,c2,c3]
 have g:=Dn g0 a;have th:=nz (rs:=rs0) (n:=a);have hf:h0∈yJ (rs0.drop a++rs0.take a):=VG.mpr (by rw[g0.fst];exact yx hh0);have hpm:(yJ (rs0.drop a++rs0.take a)).Perm hs:=(List.perm_ext_iff_of_nodup Ku (Ye.mp g0.nd).1).mpr fun h=>by rw[VG,g0.fst]
 rw[g0.fst] at th;generalize rs0.drop a++rs0.take a=rs at *;have h2:(yJ rs).length<=2:=by lia
 have rl:=g.rl;refine Y2 (i:=6) (d:=?M6) zE.nd rfl ?A3 (rF (r:=(gF,gDs h0 rs)) KB ?A2 rfl (yc (JL ?AS yB a0) (yc (PF3.p (vD z.list rfl ?Ab ?A3)) yr)) ⟨h0,rs,rfl,rfl,(g.gv hf).gw⟩) ?_;refine QQ (i:=7) zE.nd rfl ?A3 (cZ XB ?A2 rfl (yc ?A9 (yc ?B9 yr)) ⟨ns,ws,rfl,g.w0,g.wl⟩ fun d hd=>?_);obtain⟨cs0,rfl,cd0⟩:=hd;refine rY (fun Γ Ω=>∃ cs:Ct,EZ cs/\Γ=[some (.scr ns),some ?qC,some ?Br,some ?DX,some ?Bo,some (.int (a:Int)),some ?M6,some (.lst ?BD),none,none,none,none,none]/\Ω=[]) (qI (KQ (Va (Yp (d:=.int ?J4) qO ?A2 rfl ?Gx ?_) yB ?_) yB)) ?_ ?_ ?_
 .exact⟨ns,3,rfl,rfl⟩
 .decide
 .intro _;refine Y2 (i:=7) zE.nd rfl ?A3 (eR yr) ?_;exact y9 ⟨[],⟨?B,fun c hc=>absurd hc (by simp)⟩,rfl,rfl⟩
 .intro _;exact y9 ⟨cs0,cd0,rfl,rfl⟩
 rintro Γ Ω ⟨cs,cd,rfl,rfl⟩;have sg:∀ c∈cs,∃ M,SumG rs c.1 M (6+(12+2*2)*(2*sK 5 2)) 5:=fun c hc=>AT g h2 ?B ?B (yU (cd.2 c hc).2.2.2 ?B);refine jF PassesOwn.never rfl (QH ?ES) (fun i Γ Ω=>(∃ x8 x9,Γ=[some (.scr ns),some ?qC,some ?Br,some ?DX,some ?Bo,some (.int (a:Int)),some ?M6,some (.lst ?BD),x8,x9,none,none,none]/\Ω=[])/\∀ c∈cs.take i,vj rs h0 c.1≠0) ⟨?Ft,fun c hc=>absurd hc (by simp)⟩ ?_ ?_
 .rintro i d Γ Ω hd ⟨⟨x8,x9,rfl,rfl⟩,hw⟩;obtain⟨c,hc,rfl⟩:=W7 hd;obtain⟨M,so⟩:=sg c (yx hc);refine⟨_,(vo rfl (qh (Yl (i:=8) zE.nd rfl ?A3) (qh (Yl (i:=9) zE.nd rfl ?A3) zD))),?_⟩;refine U4 (GL (BB hr.units) (Bi Ze y8.c ?A2 (DM lD ?A2 rfl (yc ?BO (yc ?FZ yr)) ⟨h0,rs,c.1,M,_,5,rfl,so⟩ fun r hC=>?_)));obtain⟨cc,rfl⟩:=hC h0 rs c.1 rfl;refine⟨_,_,sh (vj rs h0 c.1),rfl,vR,⟨h0,rs,c.1,_,_,_,_,knG rs c.1,rfl,rfl⟩,Yn (zC (d:=sh 0) ?Gf rfl) ⟨qD (sh (vj rs h0 c.1)) (sh 0),fun x y H F Q fh i1 i2 q=>⟨_,_,?J5,i2.mono fh,Ja,Jg,q⟩,fun _=>qH FO rfl,fun hk=>?_⟩⟩;rw[QL] at hk;refine y9 (y9 ⟨?Ft,fun q hq=>?_⟩);rw[Yg hc] at hq;rcases Yj.mp hq with y|y
  .exact hw q y
  .rw[yy.mp y];exact of_decide_eq_false hk
 .rintro Γ Ω ⟨⟨x8,x9,rfl,rfl⟩,hw⟩;rw[uJ,yI] at hw;have ok:CtP rs h0 cs 600000:=by
   refine⟨cd.1,fun c hc=>⟨(cd.2 c hc).1,(cd.2 c hc).2.1,?_⟩,?B⟩;obtain⟨M,so⟩:=sg c hc;have c4:=(cd.2 c hc).2.2.2;have eb:6+(12+2*2)*(2*sK 5 2)=3046:=by decide
   have nb:c.1.length*3046<=4*3046:=YI _ c4;rw[eb] at so;exact⟨M,3046,5,⟨?B,so,rl,(cd.2 c hc).2.2.1,fun r hr'=>(g.body r hr').1,?A,hw c hc⟩,?A⟩
  have cf:∀ r∈rs,0<=qo rs h0 cs r/\Sz 2000011 (qo rs h0 cs r):=fun r hr'=>lO ok hr';have gw:=E6 (st:=h0) g cf hf;have lp:=(gQ (f:=?Gt) g).trans hpm;refine Y2 (i:=10) zE.nd rfl ?A3 (PF3.p (vD z.list rfl ?ES ?A3)) ?_;refine Y2 (i:=11) zE.nd rfl ?A3 (Yp (d:=gD C_Grammar h0 (wI ?Gt rs)) BX ?A2 rfl (yc ?BO (yc (pq 10 rfl) yr)) ?_) ?_
  .exact⟨h0,rs,cs,_,rfl,rfl,ok,rl,gw⟩
  obtain⟨_,_,_,_,hmG,_⟩:=KB;refine zO (PW3.t (eg (eA (vF (DJ z.isinstance rfl (pq 11 rfl) (rC rfl hmG (v:=.ref C_Grammar) rfl ZD) yP.c Vm))) fun _=>eg (qI (HJ (k:=?AN) (Xn hr.units (pq 10 rfl) ?ES r6 DT) ?_)) fun _=>bA (qI (HJ (k:=?AN) (Xn hr.units (PF3.p (JR (ds:=?AO) qP yP.c ?A2 ?BO jg ⟨h0,rs,rfl,rfl⟩)) ?Ab W4 WV) ?_)))) (fun hk=>?MD) fun _=>y9 ?_
  .rw[J2 CL];rfl
  .rw[J2 K5];rfl
  refine Y2 (i:=12) zE.nd rfl ?A3 (Yp (d:=.lst (yD (wI ?Gt rs))) p6 ?A2 rfl (yc ?Ab (yc (Yp (d:=.lst (rs.map fun r=>sh (qo rs h0 cs r))) dw ?A2 rfl (yc ?BO (yc ?Ab (yc ?ES yr))) ?_) yr)) ?_) ?_
  .exact⟨h0,rs,cs,_,rfl,rfl,ok,rl⟩
  .exact⟨rs,?Gt,rfl,rfl,rl,cf⟩
  generalize wI ?Gt rs=lr' at *;obtain⟨so,so1,so2⟩:=oA hs;refine qH (zC (XR (kC (Xq hr.units (PF3.p (JR (ds:=yD lr') qP yP.c ?A2 (pq 11 rfl) jg ?LU)) (pq 12 rfl) W4 WV)) fun _=>XR (kC (XV (Kv (d:=.str h0) Q5 yP.c ?A2 (pq 11 rfl) za ?LU) (JL ?AS yB a0))) fun _=>aL (kC (Xq hr.units (eB (ss':=so) z.sorted rfl (PF3.p (JR (ds:=yT (yJ lr')) Jj yP.c ?A2 (pq 11 rfl) Zl ?LU)) ?_ (so1.trans lp.symm) so2) (eB (ss':=so) z.sorted rfl ?AS ?_ so1 so2) (WD aC) oz))) ?_) rfl
  .rw[lp.length_eq];lia
  .lia
  .rw[J2 K5,J2 aC,yL rfl];rfl
end
section
variable {P:?A6}{w:?A5}{K:?A1}{mg:?G}{base:Heap}{C_Grammar C_Sums C_Parts:Addr}
theorem Ce (ht:?qQ)(z:?AM)(y6:?V)(Zd:?wJ)(Zc:Qc K mg "MOST_RULES" (.int 30))(JT:Qc K mg "MOST_SYMBOLS" (.int 4))(jo:?tK)(yP:?BL)(Vm:InsK K C_Grammar)(U0:vG K mg "Grammar" C_Grammar "Grammar.__init__" QA ["self", "start", "rules"])(ZL:YZ K C_Grammar "start" "Grammar.start" jz ["self"])(ZN:YZ K C_Grammar "rules" "Grammar.rules" jx ["self"])(ZJ:YZ K C_Grammar "heads" "Grammar.heads" jy ["self"])(vz:YZ K C_Grammar "live" "Grammar.live" jV ["self"])(y8:?BM)(lH:vG K mg "Sums" C_Sums "Sums.__init__" Qu ["self", "grammar", "row"])(vW:YZ K C_Sums "within" "Sums.within" Jp ["self", "head", "i", "j"])(VU:YZ K C_Sums "whole" "Sums.whole" J6 ["self"])(v4:YZ K C_Sums "settle" "Sums.settle" jP ["self", "i", "j"])(vx:YZ K C_Sums "ends_at" "Sums.ends_at" jY ["self", "i", "j"])(V0:YZ K C_Sums "worth" "Sums.worth" J5 ["self", "symbol", "i", "j"])(JV:YZ K C_Sums "worth_of_body" "Sums.worth_of_body" Qh ["self", "body", "i", "j"])(Ji:?uB)(yZ:?D4)(dA:vG K mg "Parts" C_Parts "Parts.__init__" jW ["self", "grammar", "row"])(vq:YZ K C_Parts "beyond" "Parts.beyond" JQ ["self", "head", "i", "j"])(VV:YZ K C_Parts "hand" "Parts.hand" zP ["self", "body", "i", "j", "pair"])(Jr:YZ K C_Parts "hand_to_heads" "Parts.hand_to_heads" qB ["self", "i", "j"])(Jh:YZ K C_Parts "hand_to_bodies" "Parts.hand_to_bodies" Qp ["self", "i", "j"])(jn:YZ K C_Parts "hand_within_bodies" "Parts.hand_within_bodies" YN ["self", "i", "j"])(VX:YZ K C_Parts "uses" "Parts.uses" J8 ["self", "rule"])(Zq:Yt K mg "common_divisor" jf ["one", "other"])(dB:Yt K mg "share" VP ["top", "bottom"])(du:Yt K mg "added" Vw ["one", "other"])(UT:Yt K mg "is_less" Z7 ["one", "other"])(ul:Yt K mg "lessened" Zi ["one", "other"])(dr:Yt K mg "timed" Kr ["one", "other"])(Xd:Yt K mg "parted" Ve ["one", "other"])(Zb:Yt K mg "sum_of_products" Qr ["pairs"])(UY:Yt K mg "cleared" Z5 ["row", "k"])(Zr:Yt K mg "without_itself" QB ["row", "k"])(Xc:Yt K mg "put_in" vb ["row", "k", "found"])(vY:Yt K mg "solved_rows" QE ["ways", "ends"])(vU:Yt K mg "check_rules" Jq ["rules"])(VT:Yt K mg "check_rule" J3 ["rule"])(vy:Yt K mg "check_symbol" jX ["text"])(Kc:Yt K mg "is_symbol" JC ["text"])(Ka:Yt K mg "is_letter" zK ["sign"])(v0:Yt K mg "check_start" Jo ["start", "heads"])(VW:Yt K mg "check_sums" JY ["heads", "rules"])(uo:Yt K mg "heads_of" Zn ["rules"])(US:Yt K mg "live_of" Zj ["heads", "rules"])(ZM:Yt K mg "has_live_body" QY ["head", "rules", "heads", "live"])(vw:Yt K mg "is_live_body" jj ["body", "heads", "live"])(Kh:Yt K mg "stretches" JO ["row"])(VZ:Yt K mg "live_rules" Je ["grammar"])(UW:Yt K mg "is_step" Z9 ["rule", "heads"])(Kg:Yt K mg "chains_of" j8 ["heads", "steps"])(Xb:Yt K mg "learnt" kR ["grammar", "counted"])(k7:Yt K mg "counts_of" JK ["grammar", "counted"])(vv:Yt K mg "sums_by_head" JD ["rules", "counts"])(vV:Yt K mg "_law_cell_at" zp ["_law_script", "_law_k"])(ui:Yt K mg "_law_dice" vg ["_law_cell"])(um:Yt K mg "_law_roll" va ["_law_dice_here", "_law_most"])(vT:Yt K mg "_law_symbols" Jm ["_law_cell", "_law_many"])(Kd:Yt K mg "_law_share" zG ["_law_top", "_law_bottom"])(k8:Yt K mg "_law_added" ZF ["_law_one", "_law_other"])(kX:Yt K mg "_law_timed" ZA ["_law_one", "_law_other"])(VY:Yt K mg "_law_bodies" zV ["_law_dice_here", "_law_heads", "_law_words", "_law_first"])(Ke:Yt K mg "_law_rules" zH ["_law_dice_here", "_law_heads", "_law_words"])(uk:Yt K mg "_law_made" vd ["_law_cell", "_law_other", "_law_most"])(U2:Yt K mg "_law_row" Z6 ["_law_cell", "_law_words", "_law_most"])(vZ:Yt K mg "_law_counted" zr ["_law_script", "_law_words"])(VS:Yt K mg "_law_counts" J0 ["_law_grammar", "_law_rules_here", "_law_counted_here"])(UZ:Yt K mg "_law_due" Vg ["_law_rules_here", "_law_counts_here"])(F:Fun K "law" "law" d8 f fd):FnOk P w K mg base CX0 56 f fd ["_law_script"] (Up K):=by
 have q1:=uT (P:=P) (w:=w) (base:=base) Zq;have q1s:=BJ ht dB q1;have q2:=tG ht du q1;have s4:=iV (P:=P) (w:=w) (base:=base) UT;have s5:=dP ul q1s s4;have s6:=AO dr q1s;have s7:=nQ y6 Xd s6;have s8:=ig (P:=P) (w:=w) (base:=base) y6 UY;have s9:=uN z y6 Zd Zr s4 s5 s7 s8;have s10:=oE z y6 Xc q2 s6 s8;have s11:=xm z vY s9 s10;have q3:=aO (P:=P) (w:=w) (base:=base) Ka;have q3b:=ba z jo Kc q3;have q4:=wE z jo vy q3b;have q5:=Xi z y6 JT VT q4;have q6:=xS z Zc vU q5;have q7:=WQ (P:=P) (w:=w) (base:=base) v0;have q8:=Xu y6 Zd VW q2;have q9:=dR (P:=P) (w:=w) (base:=base) uo;have q10:=wF (P:=P) (w:=w) (base:=base) z vw;have q11:=Uq z ZM q10;have q12:=gc z US q11;have q13:=gL z yP U0 q6 q9 q7 q8 q12;have q14:=UB (mg:=mg) (P:=P) (w:=w) (base:=base) yP ZL;have q15:=UQ (P:=P) (w:=w) (base:=base) z yP ZN;have q16:=UK (P:=P) (w:=w) (base:=base) z yP ZJ;have q17:=wO (P:=P) (w:=w) (base:=base) z yP vz;have uq:=CP ht y6 Zb q1 q1s;have u1:=Dg uq GJ;have u2:=cF (P:=P) (w:=w) (base:=base) z Kh;have u3:=Xl yP VZ q16 q17 q15 q10;have u4:=iM (P:=P) (w:=w) (base:=base) z UW;have u5:=bf z y6 Zd Kg s11;have u6:=xY (P:=P) (w:=w) (base:=base) y8 y6 vW;have u7:=Xh z y8 yP VU u6 q14;have u8:=Xg y8 y6 Zd V0 u6;have u9:=VB z y8 y6 JV Ji u8 u1 4;have u10:=UH y8 y6 vx u9 q2 s6;have u11:=wJ y8 y6 v4 u10 u1;have u12:=BN z y8 yP lH q17 u3 q16 u4 u5 u2 u11;have t1:=wu (P:=P) (w:=w) (base:=base) yZ y6 vq;have t2:=WR (P:=P) (w:=w) (base:=base) z yZ y8 y6 VV;have t3:=v9 z yZ y8 Jr uq;have t4:=vN z yZ y8 Jh t1 t2;have t5:=ZG z yZ y8 jn uq t2 u9 u8;have t6:=oS z yZ y8 yP y6 Zd dA u12 u7 q15 q14 u2 t2 t3 t4 t5;have t7:=Xa z yZ y8 yP VX t1 u9 uq s6 s7 u7;have t9:=cD z yP yZ y6 k7 q15 t6 t7 q2 s6;have t10:=wA z y6 vv q2;have t11:=pB z yP y6 Xb q15 t9 t10 s7 q14 q13;have r1:=Wo (P:=P) (w:=w) (base:=base) z vV
 have r3:=bZ (w:=w) (base:=base) ht Kd;have r4:=cS k8 r3;have r5:=cI kX r3;have r7:=dD (P:=P) (w:=w) (base:=base) ui;have r8:=dY (P:=P) (w:=w) (base:=base) um;have r9:=WH (w:=w) (base:=base) ht z vT;have r10:=Xv z VY r8;have r11:=bD z Ke r8 r10 r3;have r12:=dI z uk r9 r7 r8 r11;have r13:=gm z U2 r7 r8;have r14:=xo z vZ r1 r13;have r15:=Xm z yP yZ VS t6 t7 r4 r5;have r16:=ia z UZ r4 r3;exact Gw z yP Vm y8 F r1 r12 r14 r15 r16 q13 q15 q14 q16 t11 (Bq u12) u7
end
end Law
namespace L3
open PySem
theorem KM {us:?AX}(e:us.length=1):∃ a,us=[a]:=QK.mp e
theorem Zf {us:?AX}(e:us.length=2):∃ a b,us=[a,b]:=by
 cases us with
 |nil=>cases e
 |cons a r=>obtain⟨b,h⟩:=KM ?Hs;exact⟨a,b,by rw[h]⟩
theorem K1 {us:?AX}(e:us.length=3):∃ a b c,us=[a,b,c]:=by
 cases us with
 |nil=>cases e
 |cons a r=>obtain⟨b,c,h⟩:=Zf ?Hs;exact⟨a,b,c,by rw[h]⟩
theorem fT {us:?AX}(e:us.length=4):∃ a b c d,us=[a,b,c,d]:=by
 cases us with
 |nil=>cases e
 |cons a r=>obtain⟨b,c,d,h⟩:=K1 ?Hs;exact⟨a,b,c,d,by rw[h]⟩
theorem IZ {us:?AX}(e:us.length=5):∃ a b c d f,us=[a,b,c,d,f]:=by
 cases us with
 |nil=>cases e
 |cons a r=>obtain⟨b,c,d,f,h⟩:=fT ?Hs;exact⟨a,b,c,d,f,by rw[h]⟩
end L3
namespace Law
open PySem L2 L3
theorem walk {l:W.OpenLaw}{q:?A6}{loose:?A0}{XP:?G->Heap->Prop}{YP:World->Heap->Prop}{d:DefRec}{K:Params->W.Frag}(hn:l.most=some 63)(hi:PyProof.Rows.importsNone q=true)(hdf:d.params.defaults=[])
  (hY:∀ (w:World) (h:Heap),YP w h->(?C7).In h)
  (F:∀ (w:World) (mg:Str->Option Value) (fa:Addr) (h:Heap),(?C7).In h->h.Ns mainGlobals mg->mg d.name=some ?EJ->
   ∃ fd:FuncData,(∀ (s:Shared) (u:Value),BindsTo s fd ⟨[u],[]⟩ [("_law_script", u)])/\∀ base:Heap,(?C7).In base->base.Ns mainGlobals mg->FnOk l.prog w ?C7 mg base CX0 56 fa fd ["_law_script"] (Up ?C7)) :
  W.WalkO q loose XP YP l.row.toRowW d [] (fun f vs=>?KW):=
 L2.Cv (n:=63) (k:=56) (x:="_law_script") (CX:=fun _=>CX0) (sp:=fun w=>Up ?C7) hn ?B hi hdf ⟨rfl,?B,?B⟩ hY F (fun _ _ a ns hl _ hS=>Dz hl hS) fun _ _ _ _ _ z=>z
end Law
open PySem PySem.W PyProof.Rows
set_option maxRecDepth 100000 in
set_option maxHeartbeats 0 in
theorem PySem.Challenge.cw_scoreflow_k18_counts_shared_out_holds : PySem.Challenge.rw_scoreflow_k18_counts_shared_out.Holds := by
 w_on;refine PySem.W.holds_law Law.HX fun said=>?_
 refine PySem.W.holds_open (q:=Law.iq) (loose:=[]) (Xt:=fun s=>PySem.W.xlAt Law.iq [] s&&PySem.W.recOk [] s) (XP:=PySem.W.XL Law.iq [])
  (Yf:=(?Fe).obs) (Ya:=(?Fe).val) (YP:=(?Fe).says) (N:=?jL) Law.hl (?Fe).of (?Fe).keeps
  (fun s e=>PySem.W.xl_of s (?Nh).1) PySem.W.XL.keeps (by rfl) (by rfl) (by rfl) (fun s e=>PySem.W.recFacts_of (?Nh).2) ?d4 ?d5 ?d6 ⟨rfl,rfl,rfl,rfl,rfl,?E⟩ ?hw ?hc
 case d4=>rfl
 case d5=>first|assumption|decide +kernel
 case d6=>decide +kernel
 case hw=>w_witness2
 k_fill
 refine Law.walk (l:=PySem.Challenge.rw_scoreflow_k18_counts_shared_out) rfl ?hi rfl (fun w h Y=>PySem.W.kIn_of Y) ?F
 case hi=>decide +kernel
 case F=>
  intro w mg fa h KX G hmg;have Zq:L2.Yt (L2.KOf KX) mg "common_divisor" Law.jf ["one", "other"]:=?N
  have dB:L2.Yt (L2.KOf KX) mg "share" Law.VP ["top", "bottom"]:=?N
  have du:L2.Yt (L2.KOf KX) mg "added" Law.Vw ["one", "other"]:=?N
  have UT:L2.Yt (L2.KOf KX) mg "is_less" Law.Z7 ["one", "other"]:=?N
  have ul:L2.Yt (L2.KOf KX) mg "lessened" Law.Zi ["one", "other"]:=?N
  have dr:L2.Yt (L2.KOf KX) mg "timed" Law.Kr ["one", "other"]:=?N
  have Xd:L2.Yt (L2.KOf KX) mg "parted" Law.Ve ["one", "other"]:=?N
  have Zb:L2.Yt (L2.KOf KX) mg "sum_of_products" Law.Qr ["pairs"]:=?zV
  have UY:L2.Yt (L2.KOf KX) mg "cleared" Law.Z5 ["row", "k"]:=?N
  have Zr:L2.Yt (L2.KOf KX) mg "without_itself" Law.QB ["row", "k"]:=?N
  have Xc:L2.Yt (L2.KOf KX) mg "put_in" Law.vb ["row", "k", "found"]:=?jD
  have vY:L2.Yt (L2.KOf KX) mg "solved_rows" Law.QE ["ways", "ends"]:=?N
  have vU:L2.Yt (L2.KOf KX) mg "check_rules" Law.Jq ["rules"]:=?zV
  have VT:L2.Yt (L2.KOf KX) mg "check_rule" Law.J3 ["rule"]:=?zV
  have vy:L2.Yt (L2.KOf KX) mg "check_symbol" Law.jX ["text"]:=?zV
  have Kc:L2.Yt (L2.KOf KX) mg "is_symbol" Law.JC ["text"]:=?zV
  have Ka:L2.Yt (L2.KOf KX) mg "is_letter" Law.zK ["sign"]:=?zV
  have v0:L2.Yt (L2.KOf KX) mg "check_start" Law.Jo ["start", "heads"]:=?N
  have VW:L2.Yt (L2.KOf KX) mg "check_sums" Law.JY ["heads", "rules"]:=?N
  have uo:L2.Yt (L2.KOf KX) mg "heads_of" Law.Zn ["rules"]:=?zV
  have US:L2.Yt (L2.KOf KX) mg "live_of" Law.Zj ["heads", "rules"]:=?N
  have ZM:L2.Yt (L2.KOf KX) mg "has_live_body" Law.QY ["head", "rules", "heads", "live"]:=?tR
  have vw:L2.Yt (L2.KOf KX) mg "is_live_body" Law.jj ["body", "heads", "live"]:=?jD
  have Kh:L2.Yt (L2.KOf KX) mg "stretches" Law.JO ["row"]:=?zV
  have VZ:L2.Yt (L2.KOf KX) mg "live_rules" Law.Je ["grammar"]:=?zV
  have UW:L2.Yt (L2.KOf KX) mg "is_step" Law.Z9 ["rule", "heads"]:=?N
  have Kg:L2.Yt (L2.KOf KX) mg "chains_of" Law.j8 ["heads", "steps"]:=?N
  have Xb:L2.Yt (L2.KOf KX) mg "learnt" Law.kR ["grammar", "counted"]:=?N
  have k7:L2.Yt (L2.KOf KX) mg "counts_of" Law.JK ["grammar", "counted"]:=?N
  have vv:L2.Yt (L2.KOf KX) mg "sums_by_head" Law.JD ["rules", "counts"]:=?N
  have vV:L2.Yt (L2.KOf KX) mg "_law_cell_at" Law.zp ["_law_script", "_law_k"]:=?N
  have ui:L2.Yt (L2.KOf KX) mg "_law_dice" Law.vg ["_law_cell"]:=?zV
  have um:L2.Yt (L2.KOf KX) mg "_law_roll" Law.va ["_law_dice_here", "_law_most"]:=?N
  have vT:L2.Yt (L2.KOf KX) mg "_law_symbols" Law.Jm ["_law_cell", "_law_many"]:=?N
  have Kd:L2.Yt (L2.KOf KX) mg "_law_share" Law.zG ["_law_top", "_law_bottom"]:=?N
  have k8:L2.Yt (L2.KOf KX) mg "_law_added" Law.ZF ["_law_one", "_law_other"]:=?N
  have kX:L2.Yt (L2.KOf KX) mg "_law_timed" Law.ZA ["_law_one", "_law_other"]:=?N
  have VY:L2.Yt (L2.KOf KX) mg "_law_bodies" Law.zV ["_law_dice_here", "_law_heads", "_law_words", "_law_first"]:=?tR
  have Ke:L2.Yt (L2.KOf KX) mg "_law_rules" Law.zH ["_law_dice_here", "_law_heads", "_law_words"]:=?jD
  have uk:L2.Yt (L2.KOf KX) mg "_law_made" Law.vd ["_law_cell", "_law_other", "_law_most"]:=?jD
  have U2:L2.Yt (L2.KOf KX) mg "_law_row" Law.Z6 ["_law_cell", "_law_words", "_law_most"]:=?jD
  have vZ:L2.Yt (L2.KOf KX) mg "_law_counted" Law.zr ["_law_script", "_law_words"]:=?N
  have VS:L2.Yt (L2.KOf KX) mg "_law_counts" Law.J0 ["_law_grammar", "_law_rules_here", "_law_counted_here"]:=?jD
  have UZ:L2.Yt (L2.KOf KX) mg "_law_due" Law.Vg ["_law_rules_here", "_law_counts_here"]:=?N
  have Ip:mg "len" = none:=by refine' ?B3;k_is
  have DU:mg "range" = none:=by refine' ?B3;k_is
  have GN:mg "list" = none:=by refine' ?B3;k_is
  have DW:mg "tuple" = none:=by refine' ?B3;k_is
  have Io:mg "int" = none:=by refine' ?B3;k_is
  have GM:mg "bool" = none:=by refine' ?B3;k_is
  have Il:mg "str" = none:=by refine' ?B3;k_is
  have GO:mg "dict" = none:=by refine' ?B3;k_is
  have dm:mg "isinstance" = none:=by refine' ?B3;k_is
  have Iq:mg "sum" = none:=by refine' ?B3;k_is
  have f6:mg "enumerate" = none:=by refine' ?B3;k_is
  have Im:mg "zip" = none:=by refine' ?B3;k_is
  have de:mg "ValueError" = none:=by refine' ?B3;k_is
  have Ir:mg "all" = none:=by refine' ?B3;k_is
  have Iu:mg "any" = none:=by refine' ?B3;k_is
  have lE:mg "reversed" = none:=by refine' ?B3;k_is
  have BZ:mg "sorted" = none:=by refine' ?B3;k_is
  have z:L3.Zs mg:=⟨Ip,DU,GN,DW,Io,GM,Il,GO,dm,Iq,f6,Im,de,Ir,Iu,lE,BZ⟩
  have y6:L3.Qc (L2.KOf KX) mg "NOUGHT" (L3.sh 0):=by
   dsimp only[L2.KOf];refine' L3.fW KX G ?a ?l
   case a|l=>k_is
  have Zd:L3.Qc (L2.KOf KX) mg "ONE" (L3.sh 1):=by
   dsimp only[L2.KOf];refine' L3.fW KX G ?a ?l
   case a|l=>k_is
  have Zc:L3.Qc (L2.KOf KX) mg "MOST_RULES" (.int 30):=by
   dsimp only[L2.KOf];refine' ?LB
   case a=>k_is
  have JT:L3.Qc (L2.KOf KX) mg "MOST_SYMBOLS" (.int 4):=by
   dsimp only[L2.KOf];refine' ?LB
   case a=>k_is
  have jo:L3.Qc (L2.KOf KX) mg "MOST_LETTERS" (.int 8):=by
   dsimp only[L2.KOf];refine' ?LB
   case a=>k_is
  have cc_Grammar:∃ C,L3.ClsG ?AZ C/\L3.InsK ?AZ C/\L2.vG ?AZ mg "Grammar" C "Grammar.__init__" Law.QA ["self", "start", "rules"]/\L2.YZ ?AZ C "start" "Grammar.start" Law.jz ["self"]/\L2.YZ ?AZ C "rules" "Grammar.rules" Law.jx ["self"]/\L2.YZ ?AZ C "heads" "Grammar.heads" Law.jy ["self"]/\L2.YZ ?AZ C "live" "Grammar.live" Law.jV ["self"]:=by
   dsimp only[L2.KOf];refine' ⟨_,L3.CT ?pg ?hd ?po ?sa ?n0 ?n1 ?n2 ?n3,⟨?ica,?igs,?itk,?imo,?iki⟩,L2.aR KX G ["self", "start", "rules"] ?g ?a ?mk ?i ?kc ?l ?c ?k ?b,L2.jM ["self"] ?a0 ?i0 ?l0 ?c0 ?k0 ?b0,L2.jM ["self"] ?a1 ?i1 ?l1 ?c1 ?k1 ?b1,L2.jM ["self"] ?a2 ?i2 ?l2 ?c2 ?k2 ?b2,L2.jM ["self"] ?a3 ?i3 ?l3 ?c3 ?k3 ?b3⟩
   case g|a|mk|i|kc|l|c|k=>k_is
   (case b=>intro _ _ _ _ _ _ us hl;obtain⟨_,_,_,rfl⟩:=L3.K1 hl;rfl)
   (case ica=>k_is);(case igs=>k_is);(case itk=>k_is);(case imo=>k_is);(case iki=>kernel_rfl)
   case pg|hd|po|sa|n0|n1|n2|n3|a0|i0|l0|c0|k0=>k_is
   (case b0=>intro _ _ _ _ _ _ us hl;obtain⟨_,rfl⟩:=L3.KM hl;rfl)
   case a1|i1|l1|c1|k1=>k_is
   (case b1=>intro _ _ _ _ _ _ us hl;obtain⟨_,rfl⟩:=L3.KM hl;rfl)
   case a2|i2|l2|c2|k2=>k_is
   (case b2=>intro _ _ _ _ _ _ us hl;obtain⟨_,rfl⟩:=L3.KM hl;rfl)
   case a3|i3|l3|c3|k3=>k_is
   (case b3=>intro _ _ _ _ _ _ us hl;obtain⟨_,rfl⟩:=L3.KM hl;rfl)
  obtain⟨C_Grammar,yP,Vm,U0,ZL,ZN,ZJ,vz⟩:=cc_Grammar;have cc_Sums:∃ C,L3.ClsS ?AZ C/\L2.vG ?AZ mg "Sums" C "Sums.__init__" Law.Qu ["self", "grammar", "row"]/\L2.YZ ?AZ C "within" "Sums.within" Law.Jp ["self", "head", "i", "j"]/\L2.YZ ?AZ C "whole" "Sums.whole" Law.J6 ["self"]/\L2.YZ ?AZ C "settle" "Sums.settle" Law.jP ["self", "i", "j"]/\L2.YZ ?AZ C "ends_at" "Sums.ends_at" Law.jY ["self", "i", "j"]/\L2.YZ ?AZ C "worth" "Sums.worth" Law.J5 ["self", "symbol", "i", "j"]/\L2.YZ ?AZ C "worth_of_body" "Sums.worth_of_body" Law.Qh ["self", "body", "i", "j"]/\L2.YZ ?AZ C "sum_of_partings" "Sums.sum_of_partings" Law.qk ["self", "body", "i", "j"]:=by
   dsimp only[L2.KOf];refine' ⟨_,L3.CH ?pg ?hd ?po ?sa ?n0 ?n1 ?n2 ?n3 ?n4 ?n5 ?n6,L2.aR KX G ["self", "grammar", "row"] ?g ?a ?mk ?i ?kc ?l ?c ?k ?b,L2.jM ["self", "head", "i", "j"] ?a0 ?i0 ?l0 ?c0 ?k0 ?b0,L2.jM ["self"] ?a1 ?i1 ?l1 ?c1 ?k1 ?b1,L2.jM ["self", "i", "j"] ?a2 ?i2 ?l2 ?c2 ?k2 ?b2,L2.jM ["self", "i", "j"] ?a3 ?i3 ?l3 ?c3 ?k3 ?b3,L2.jM ["self", "symbol", "i", "j"] ?a4 ?i4 ?l4 ?c4 ?k4 ?b4,L2.jM ["self", "body", "i", "j"] ?a5 ?i5 ?l5 ?c5 ?k5 ?b5,L2.jM ["self", "body", "i", "j"] ?a6 ?i6 ?l6 ?c6 ?k6 ?b6⟩
   case g|a|mk|i|kc|l|c|k=>k_is
   (case b=>intro _ _ _ _ _ _ us hl;obtain⟨_,_,_,rfl⟩:=L3.K1 hl;rfl)
   case pg|hd|po|sa|n0|n1|n2|n3|n4|n5|n6|a0|i0|l0|c0|k0=>k_is
   (case b0=>intro _ _ _ _ _ _ us hl;obtain⟨_,_,_,_,rfl⟩:=L3.fT hl;rfl)
   case a1|i1|l1|c1|k1=>k_is
   (case b1=>intro _ _ _ _ _ _ us hl;obtain⟨_,rfl⟩:=L3.KM hl;rfl)
   case a2|i2|l2|c2|k2=>k_is
   (case b2=>intro _ _ _ _ _ _ us hl;obtain⟨_,_,_,rfl⟩:=L3.K1 hl;rfl)
   case a3|i3|l3|c3|k3=>k_is
   (case b3=>intro _ _ _ _ _ _ us hl;obtain⟨_,_,_,rfl⟩:=L3.K1 hl;rfl)
   case a4|i4|l4|c4|k4=>k_is
   (case b4=>intro _ _ _ _ _ _ us hl;obtain⟨_,_,_,_,rfl⟩:=L3.fT hl;rfl)
   case a5|i5|l5|c5|k5=>k_is
   (case b5=>intro _ _ _ _ _ _ us hl;obtain⟨_,_,_,_,rfl⟩:=L3.fT hl;rfl)
   case a6|i6|l6|c6|k6=>k_is
   (case b6=>intro _ _ _ _ _ _ us hl;obtain⟨_,_,_,_,rfl⟩:=L3.fT hl;rfl)
  obtain⟨C_Sums,y8,lH,vW,VU,v4,vx,V0,JV,Ji⟩:=cc_Sums;have cc_Parts:∃ C,L3.ClsP ?AZ C/\L2.vG ?AZ mg "Parts" C "Parts.__init__" Law.jW ["self", "grammar", "row"]/\L2.YZ ?AZ C "beyond" "Parts.beyond" Law.JQ ["self", "head", "i", "j"]/\L2.YZ ?AZ C "hand" "Parts.hand" Law.zP ["self", "body", "i", "j", "pair"]/\L2.YZ ?AZ C "hand_to_heads" "Parts.hand_to_heads" Law.qB ["self", "i", "j"]/\L2.YZ ?AZ C "hand_to_bodies" "Parts.hand_to_bodies" Law.Qp ["self", "i", "j"]/\L2.YZ ?AZ C "hand_within_bodies" "Parts.hand_within_bodies" Law.YN ["self", "i", "j"]/\L2.YZ ?AZ C "uses" "Parts.uses" Law.J8 ["self", "rule"]:=by
   dsimp only[L2.KOf];refine' ⟨_,L3.C4 ?pg ?hd ?po ?sa ?n0 ?n1 ?n2 ?n3 ?n4,L2.aR KX G ["self", "grammar", "row"] ?g ?a ?mk ?i ?kc ?l ?c ?k ?b,L2.jM ["self", "head", "i", "j"] ?a0 ?i0 ?l0 ?c0 ?k0 ?b0,L2.jM ["self", "body", "i", "j", "pair"] ?a1 ?i1 ?l1 ?c1 ?k1 ?b1,L2.jM ["self", "i", "j"] ?a2 ?i2 ?l2 ?c2 ?k2 ?b2,L2.jM ["self", "i", "j"] ?a3 ?i3 ?l3 ?c3 ?k3 ?b3,L2.jM ["self", "i", "j"] ?a4 ?i4 ?l4 ?c4 ?k4 ?b4,L2.jM ["self", "rule"] ?a5 ?i5 ?l5 ?c5 ?k5 ?b5⟩
   case g|a|mk|i|kc|l|c|k=>k_is
   (case b=>intro _ _ _ _ _ _ us hl;obtain⟨_,_,_,rfl⟩:=L3.K1 hl;rfl)
   case pg|hd|po|sa|n0|n1|n2|n3|n4|a0|i0|l0|c0|k0=>k_is
   (case b0=>intro _ _ _ _ _ _ us hl;obtain⟨_,_,_,_,rfl⟩:=L3.fT hl;rfl)
   case a1|i1|l1|c1|k1=>k_is
   (case b1=>intro _ _ _ _ _ _ us hl;obtain⟨_,_,_,_,_,rfl⟩:=L3.IZ hl;rfl)
   case a2|i2|l2|c2|k2=>k_is
   (case b2=>intro _ _ _ _ _ _ us hl;obtain⟨_,_,_,rfl⟩:=L3.K1 hl;rfl)
   case a3|i3|l3|c3|k3=>k_is
   (case b3=>intro _ _ _ _ _ _ us hl;obtain⟨_,_,_,rfl⟩:=L3.K1 hl;rfl)
   case a4|i4|l4|c4|k4=>k_is
   (case b4=>intro _ _ _ _ _ _ us hl;obtain⟨_,_,_,rfl⟩:=L3.K1 hl;rfl)
   case a5|i5|l5|c5|k5=>k_is
   (case b5=>intro _ _ _ _ _ _ us hl;obtain⟨_,_,rfl⟩:=L3.Zf hl;rfl)
  obtain⟨C_Parts,yZ,dA,vq,VV,Jr,Jh,jn,VX⟩:=cc_Parts;refine' L2.FJ (st:=Law.d8) KX G hmg ?a ?l ?c ?k ?b ?ok
  (case a=>k_is);(case l=>k_is);(case c=>k_is);(case k=>k_is)
  (case b=>exact fun _=>rfl)
  (case ok=>
   intro fd base kb nb F;exact Law.Ce rfl z y6 Zd Zc JT jo yP Vm U0 ZL ZN ZJ vz y8 lH vW VU v4 vx V0 JV Ji yZ dA vq VV Jr Jh jn VX Zq dB du UT ul dr Xd Zb UY Zr Xc vY vU VT vy Kc Ka v0 VW uo US ZM vw Kh VZ UW Kg Xb k7 vv vV ui um vT Kd k8 kX VY Ke uk U2 vZ VS UZ F)

