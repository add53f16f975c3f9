import PyProof.Rows.All
import Wide.All
import OpenK.AllK
import Wide.FinOn
import HandS.ForMost
import HandS.ForExc
import HandS.ExcInit
import HandS.ExcField
import HandS.ExcIs
import HandS.IsInst
import HandS.Evl
import HandS.Conv
import HandS.WideMore
import HandS.TupAny
import PyProof.ReprNest
import PyProof.ReprDict
import KE.KExcIs
import KE.GoesEnum
import HandS.Walk
import KE.KTupSum
import PyProof.ListStr
import HandS.TryOnly
import KE.KRevSl
import HandS.Style
import PyProof.EqKinds
import PyProof.FactsAll.subtypes_3
import PyProof.FactsAll.dict_1
import PyProof.FactsAll.str_1
import HandS.TupMul
import KE.KDictPairs
import KE.DataEq
import HandS.Lambda
import HandS.TupLe
import HandS.Zip
import HandS.Rev
import HandS.Defaults
import HandS.StrMore
import PyProof.DelItemList
import PyProof.SliceStr2
import PyProof.Rows.SeqGen
import KE.GoesZip
import KE.GoesMore
import HandS.Gcd
import KE.DataFind
import KE.DataMinMax
import HandS.Deep
import HandS.SetFor
import HandS.Text
import PyProof.StrLawsLast
import KE.SortData
import PyProof.Rows.SumAny
import HandS.Flow
import HandS.ExcOwn
import HandS.EndTab
import KE.KNestM
import PySem.Challenge.RW_crewstep_k35_crews_and_steps_on_rings
set_option Elab.async false
set_option linter.all false
section
set_option Elab.async false
set_option linter.all false
set_option maxRecDepth 100000
set_option maxHeartbeats 4000000
/-! Calls where no repr is under way: a def's promise is asked only of arounds whose guards are empty. -/
namespace XK
open PySem PySem.Spec PyProof.Rows L2

structure Calm (k : Nat) (A : Around) : Prop where
  room : Room k A
  gs : A.guards = some []
theorem Calm.mono {j k : Nat} {A : Around} (c : Calm k A) (h : j ≤ k) : Calm j A := ⟨c.room.mono h, c.gs⟩
theorem Calm.deeper {k : Nat} {A : Around} (c : Calm (k + 1) A) (env : Env) : Calm k (A.deeper env) := ⟨c.room.deeper env, c.gs⟩

structure FnG (P : Program) (w : World) (K : PySem.W.Frag) (mg : Str → Option Value) (base : Heap) (k : Nat) (f : Addr) (fd : FuncData) (ps : List Str) (sp : Sp) : Prop where
  len : ∀ vs H Q E, sp vs H Q E → vs.length = ps.length
  go : ∀ (A : Around) (fr : List Env) (s : Shared) (H : Hp) (ar : Args) (us : List Value) (vs : List V) (Q : VK) (E : XK),
    Calm k A → Env0 P w K mg base A fr s H → BindsTo s fd ar (ps.zip us) → Vals vs us → sp vs H Q E → codeAny (model P w) A (.call (.ref f) ar) (CR (L2.CX P w) fr P w H s Q E) s
section
variable {P : Program} {w : World} {K : PySem.W.Frag} {mg : Str → Option Value} {base : Heap} {j k : Nat} {f : Addr} {fd : FuncData} {ps : List Str} {sp sp' : Sp}
theorem FnG.of (F : FnOk P w K mg base (L2.CX P w) k f fd ps sp) : FnG P w K mg base k f fd ps sp :=
  ⟨F.len, fun A fr s H ar us vs Q E c e b r h => F.run A fr s H ar us vs Q E c.room e b r h⟩
theorem FnG.mono (F : FnG P w K mg base j f fd ps sp) (h : j ≤ k) : FnG P w K mg base k f fd ps sp :=
  ⟨F.len, fun A fr s H ar us vs Q E c => F.go A fr s H ar us vs Q E (c.mono h)⟩
theorem FnG.imp (F : FnG P w K mg base k f fd ps sp) (h : ∀ vs H Q E, sp' vs H Q E → sp vs H Q E) : FnG P w K mg base k f fd ps sp' :=
  ⟨fun vs H Q E q => F.len vs H Q E (h _ _ _ _ q), fun A fr s H ar us vs Q E c e b r q => F.go A fr s H ar us vs Q E c e b r (h _ _ _ _ q)⟩

/-- a def by its body -/
theorem def_okC {x qual : Str} {st : Stmt} {N : List Str} (F : Fun K x qual st f fd) (S : FnScope N ps (defScope st)) (len : ∀ vs H Q E, sp vs H Q E → vs.length = ps.length)
    (body : ∀ (cdv : Value) (A : Around) (fr : List Env) (s : Shared) (H : Hp) (vs : List V) (Q : VK) (E : XK), fd.code = cdv → Calm k (A.deeper (envOfC qual (defScope st) s.heap.objs.size f cdv)) → sp vs H Q E →
      ∃ t, PSs (cxOf (L2.CX P w) P w K mg base N qual (defScope st) f cdv A fr s H E) (defBody st) t ∧ t { nx := fun _ H' => Q .non H', rt := Q } (start N vs) H) : FnG P w K mg base (k + 1) f fd ps sp := by
  obtain ⟨oc, od, kV, doc, pm, an, cdv, ct, osl, rfl, lk, hcd⟩ := F.ex
  refine ⟨len, fun A fr s H ar us vs Q E c e0 hb rv hsp => ?_⟩
  have hin : K.In s.heap := e0.mod.kin.keeps fun b o e => (e0.bs b o e).1
  have nolim : s.heap.NoLimit := e0.mod.nolimit.keeps fun b o e => (e0.bs b o e).1
  have kinds : ∀ y ∈ ps.zip us, (defScope st).names.lookup y.1 = some .local ∨ ((defScope st).names.lookup y.1 = some .cell ∧ ((cellsFrom (s.heap.objs.size + 1) (defScope st).names []).lookup y.1).isSome = true) := by
    rintro ⟨n, v⟩ hy
    have hp := S.par n (List.of_mem_zip hy).1
    rcases hp with hp | hp
    · exact Or.inl hp
    · exact Or.inr ⟨hp, PySem.W.cellsFrom_some _ _ _ (Or.inl hp)⟩
  refine codeAny_call_function c.room.depth (hin _ _ lk) rfl S.co S.gen rfl (PySem.W.codeRec_of hin hcd) (hb _ _ _ _ ?_)
  refine wpAny_newFunctionEnv_cells S.kind kinds fun env he s1 x => ?_
  subst he
  refine ⟨nolim.keeps x.toInCall.keep, codeAny_func ?_⟩
  obtain ⟨t, ht, hq⟩ := body cdv A fr s H vs Q E rfl (c.deeper _) hsp
  have J := inv_start (CX := L2.CX P w) (f := f) (cd := cdv) (qual := qual) (E := E) S c.room.hd e0 (len _ _ _ _ hsp) rv x
  refine wpAny_mono (ht.run [] s1 (start N vs) H _ J hq) (fun fl s' hs => ?_) fun _ _ z => z
  cases fl with
  | ret u =>
    obtain ⟨v, σ', H', J', rv', q⟩ := hs
    exact ⟨v, H', J'.os, J'.bare, J'.base, J'.hok, rv', q⟩
  | next =>
    obtain ⟨σ', H', J', q⟩ := hs
    exact ⟨V.non, H', J'.os, J'.bare, J'.base, J'.hok, rfl, q⟩
  | brk =>
    obtain ⟨_, _, _, q⟩ := hs
    exact q.elim
  | cont =>
    obtain ⟨_, _, _, q⟩ := hs
    exact q.elim
theorem def_ok {x qual : Str} {st : Stmt} {N : List Str} (F : Fun K x qual st f fd) (S : FnScope N ps (defScope st)) (len : ∀ vs H Q E, sp vs H Q E → vs.length = ps.length)
    (body : ∀ (cdv : Value) (A : Around) (fr : List Env) (s : Shared) (H : Hp) (vs : List V) (Q : VK) (E : XK), Calm k (A.deeper (envOfC qual (defScope st) s.heap.objs.size f cdv)) → sp vs H Q E →
      ∃ t, PSs (cxOf (L2.CX P w) P w K mg base N qual (defScope st) f cdv A fr s H E) (defBody st) t ∧ t { nx := fun _ H' => Q .non H', rt := Q } (start N vs) H) : FnG P w K mg base (k + 1) f fd ps sp :=
  def_okC F S len fun cdv A fr s H vs Q E _ c h => body cdv A fr s H vs Q E c h
/-- how keywords bind to a def's parameters -/
theorem kb_of {x qual : Str} {st : Stmt} {ks : List Str} {g : List Value → List Value → List Value} {gV : List V → List V → List V} (F : Fun K x qual st f fd)
    (h : ∀ (kV doc pm : Value) (an : Option Addr) (cdv ct : Value) (us ws : List Value), (g us ws).length = ps.length → bindArgs (PySem.W.fnOf x qual (defArgs st) (defBody st) (defScope st) .none kV doc pm an cdv ct) ⟨us, ks.zip ws⟩ = pure (ps.zip (g us ws)))
    (r : ∀ {vs : List V} {us : List Value} {zs : List V} {ws : List Value}, Vals vs us → Vals zs ws → Vals (gV vs zs) (g us ws)) : KBinds K fd ps ks g gV := by
  obtain ⟨oc, od, kV, doc, pm, an, cdv, ct, osl, rfl, lk, hcd⟩ := F.ex
  exact ⟨fun s us ws _ hl => .of_eq (h kV doc pm an cdv ct us ws hl), r⟩
end

/-! ### calls -/
section
variable {X : Cx} {k : Nat} {f : Addr} {fd : FuncData} {ps ks : List Str} {sp : Sp} {E : L2.St → XK} {x : Str} {p pos : Pos} {e : Expr} {es : List Expr} {kws : List Keyword} {t tk : TA}
variable {g : List Value → List Value → List Value} {gV : List V → List V → List V}
theorem go_fn {pins : List (Addr × Obj)} {σ : L2.St} {H : Hp} {s : Shared} {Q : VK} {ar : Args} {us : List Value} {vs : List V} (F : FnG X.prog X.w X.K X.mg X.base k f fd ps sp) (c : Calm k X.A) (hx : PassesAt (L2.CX X.prog X.w) X σ (E σ))
    (I : Inv X pins σ H s) (b : BindsTo s fd ar (ps.zip us)) (r : Vals vs us) (h : sp vs H Q (E σ)) : codeAny (model X.prog X.w) X.A (.call (.ref f) ar) (callEnd (EP X pins σ Q) X.xe) s := by
  refine codeAny_mono (F.go X.A X.stack s H ar us vs Q (E σ) c I.env0 b r h) fun r s' hq => ?_
  cases r with
  | error e => exact hx pins H s e s' I hq
  | ok fl =>
    cases fl with
    | ret u => exact I.after hq
    | next => exact hq.elim
    | brk => exact hq.elim
    | cont => exact hq.elim
/-- f(e, ..) -/
theorem pe_g (F : FnG X.prog X.w X.K X.mg X.base k f fd ps sp) (c : Calm k X.A) (hg : Gl X x) (hm : X.mg x = some (.ref f)) (hk : PySem.W.keepIn X.K (.ref f) = true) (hb : Binds X.K fd ps []) (hx : ∀ σ, PassesAt (L2.CX X.prog X.w) X σ (E σ))
    (ha : PA X (e :: es) t) (hdb : (x == ("__debug__" : Str)) = false := by decide) (he : starEach (e :: es) X.env = (false, eval e X.env) :: starEach es X.env := by rfl) (hpl : (backTo pos (starEach es X.env)).any (·.1) = false := by rfl) :
    PE X (.Call (.Name x p) (e :: es) [] pos) (tCallS sp E t) := by
  refine ⟨fun pins s σ H Q I h => wpAny_Call_Name_kw (ld_glob I hg hm ?_ hdb)⟩
  refine PySem.W.callWith_K (h₀ := X.base) I.ok.mod.kin hk (thn (ha.run pos pins s σ H _ I h) fun us s1 ⟨vs, H1, I1, r, q⟩ => ⟨I1.kIn, ?_⟩) he hpl
  have hl : us.length = ps.length := by rw [← r.length]; exact F.len _ _ _ _ q
  have b := hb s1 us I1.kIn (by rw [List.append_nil]; exact hl)
  rw [List.append_nil] at b
  exact wpAny_call (go_fn F c (hx σ) I1 b r q)
/-- f() -/
theorem pe_g0 (F : FnG X.prog X.w X.K X.mg X.base k f fd ps sp) (c : Calm k X.A) (hg : Gl X x) (hm : X.mg x = some (.ref f)) (hk : PySem.W.keepIn X.K (.ref f) = true) (hb : Binds X.K fd ps []) (hx : ∀ σ, PassesAt (L2.CX X.prog X.w) X σ (E σ))
    (hdb : (x == ("__debug__" : Str)) = false := by decide) : PE X (.Call (.Name x p) [] [] pos) (tCallS sp E tNil) := by
  refine ⟨fun pins s σ H Q I h => wpAny_Call_Name_kw (ld_glob I hg hm (PySem.W.callWith_K0 I.kIn hk ?_) hdb)⟩
  have hl : ([] : List Value).length = ps.length := F.len _ _ _ _ h
  have b := hb s [] I.kIn hl
  exact wpAny_call (go_fn F c (hx σ) I b .nil h)
/-- f(e, .., k = v, ..) -/
def tCallGK (sp : Sp) (gV : List V → List V → List V) (E : L2.St → XK) (t tk : TA) : TE := fun σ H Q => t σ H fun vs H1 => tk σ H1 fun zs H2 => sp (gV vs zs) H2 Q (E σ)
theorem pe_gk (F : FnG X.prog X.w X.K X.mg X.base k f fd ps sp) (c : Calm k X.A) (hg : Gl X x) (hm : X.mg x = some (.ref f)) (hk : PySem.W.keepIn X.K (.ref f) = true) (hb : KBinds X.K fd ps ks g gV) (hx : ∀ σ, PassesAt (L2.CX X.prog X.w) X σ (E σ))
    (ha : PA X (e :: es) t) (hkw : PK X kws tk) (hall : (backToKw pos (keywordEach kws X.env)).all (·.1.isSome) = true := by rfl) (hks : (backToKw pos (keywordEach kws X.env)).filterMap (·.1) = ks := by rfl)
    (hdb : (x == ("__debug__" : Str)) = false := by decide) (he : starEach (e :: es) X.env = (false, eval e X.env) :: starEach es X.env := by rfl)
    (hpl : ((backTo pos (starEach (e :: es) X.env)).any (·.1) || (backToKw pos (keywordEach kws X.env)).any (·.1.isNone)) = false := by rfl) :
    PE X (.Call (.Name x p) (e :: es) kws pos) (tCallGK sp gV E t tk) := by
  refine ⟨fun pins s σ H Q I h => wpAny_Call_Name_kw (ld_glob I hg hm ?_ hdb)⟩
  refine PySem.W.callWith_KW (h₀ := X.base) I.ok.mod.kin hk hall (thn (ha.run pos pins s σ H _ I h) fun us s1 ⟨vs, H1, I1, r, q⟩ => ?_) hpl he
  refine thn (hkw.run pos pins s1 σ H1 _ I1 q) fun ws s2 ⟨zs, H2, I2, rz, q2⟩ => ⟨I2.kIn, ?_⟩
  rw [hks]
  have r2 := hb.rel r rz
  have hl : (g us ws).length = ps.length := by rw [← r2.length]; exact F.len _ _ _ _ q2
  exact wpAny_call (go_fn F c (hx σ) I2 (hb.to s2 us ws I2.kIn hl) r2 q2)
/-- f(k = v, ..) -/
theorem pe_gk0 (F : FnG X.prog X.w X.K X.mg X.base k f fd ps sp) (c : Calm k X.A) (hg : Gl X x) (hm : X.mg x = some (.ref f)) (hk : PySem.W.keepIn X.K (.ref f) = true) (hb : KBinds X.K fd ps ks g gV) (hx : ∀ σ, PassesAt (L2.CX X.prog X.w) X σ (E σ))
    (hkw : PK X kws tk) (hall : (backToKw pos (keywordEach kws X.env)).all (·.1.isSome) = true := by rfl) (hks : (backToKw pos (keywordEach kws X.env)).filterMap (·.1) = ks := by rfl)
    (hdb : (x == ("__debug__" : Str)) = false := by decide) (hpl : ((backTo pos (starEach [] X.env)).any (·.1) || (backToKw pos (keywordEach kws X.env)).any (·.1.isNone)) = false := by rfl) :
    PE X (.Call (.Name x p) [] kws pos) (tCallGK sp gV E tNil tk) := by
  refine ⟨fun pins s σ H Q I h => wpAny_Call_Name_kw (ld_glob I hg hm ?_ hdb)⟩
  refine PySem.W.callWith_KW0 (h₀ := X.base) I.ok.mod.kin hk hall (thn (hkw.run pos pins s σ H _ I h) fun ws s2 ⟨zs, H2, I2, rz, q2⟩ => ⟨I2.kIn, ?_⟩) hpl
  rw [hks]
  have r2 := hb.rel (vs := []) (us := []) .nil rz
  have hl : (g [] ws).length = ps.length := by rw [← r2.length]; exact F.len _ _ _ _ q2
  exact wpAny_call (go_fn F c (hx σ) I2 (hb.to s2 [] ws I2.kIn hl) r2 q2)
end
/-- nothing leaves a callee that promises so -/
theorem quiet {X : Cx} (σ : L2.St) : PassesAt (L2.CX X.prog X.w) X σ E0 := fun _ _ _ _ _ _ ⟨_, _, _, _, _, _, _, _, _, _, _, _, z⟩ => z.elim
abbrev E00 : L2.St → XK := fun _ => E0
theorem quiets {X : Cx} : ∀ σ, PassesAt (L2.CX X.prog X.w) X σ (E00 σ) := fun σ => quiet σ
end XK
end
section
set_option Elab.async false
set_option linter.all false
set_option maxRecDepth 100000
set_option maxHeartbeats 4000000
/-! repr of data: None, bools, ints, texts, tuples, lists, empty dicts, at any depth. -/
namespace XK
open PySem PySem.Spec PyProof.Rows L2

mutual
inductive Dz (K : PySem.W.Frag) (H : Hp) : V → PyData → Prop
  | non : Dz K H .non .none
  | bl (b : Bool) : Dz K H (.bl b) (.bool b)
  | int (i : Int) : Dz K H (.int i) (.int i)
  | str (x : Str) : Dz K H (.str x) (.str x)
  | lst {a : Addr} {xs : List V} {ds : List PyData} : SqL K H a xs → DzA K H xs ds → Dz K H (.ref a) (.list ds)
  | tup {a : Addr} {xs : List V} {ds : List PyData} : SqT K H a xs → DzA K H xs ds → Dz K H (.ref a) (.tuple ds)
  | dic {a : Addr} : H a = some (.dK []) → Dz K H (.ref a) (.dict [])
inductive DzA (K : PySem.W.Frag) (H : Hp) : List V → List PyData → Prop
  | nil : DzA K H [] []
  | cons {v : V} {vs : List V} {d : PyData} {ds : List PyData} : Dz K H v d → DzA K H vs ds → DzA K H (v :: vs) (d :: ds)
end
mutual
theorem Dp.z {K : PySem.W.Frag} {H : Hp} : ∀ {v : V} {d : PyData}, Dp K H v d → Dz K H v d
  | _, _, .non => .non
  | _, _, .bl b => .bl b
  | _, _, .int i => .int i
  | _, _, .str x => .str x
  | _, _, .lst h a => .lst h (DpAll.z a)
  | _, _, .tup h a => .tup h (DpAll.z a)
theorem DpAll.z {K : PySem.W.Frag} {H : Hp} : ∀ {vs : List V} {ds : List PyData}, DpAll K H vs ds → DzA K H vs ds
  | _, _, .nil => .nil
  | _, _, .cons a b => .cons (Dp.z a) (DpAll.z b)
end

section
variable {X : Cx} {pins : List (Addr × Obj)} {σ : L2.St} {H : Hp} {s : Shared}
theorem emptyDict (I : Inv X pins σ H s) {a : Addr} (h : H a = some (.dK [])) : ∃ (o : Obj) (es : Array DictEntry) (n : Nat), s.heap.get? a = some o ∧ o.cls = .type "dict" ∧ o.data = .dict es n ∧ es.toList = [] ∧ (a == sysModules) = false := by
  obtain ⟨_, hs, vs, kv, o, es, ep, ho, hx, hd, _, hp, _⟩ := (show ObjOk X.prog X.w H s.heap a (.dK []) from I.hok a _ h)
  cases kv
  refine ⟨o, es, ep, ho, hx.1, hd, ?_, hs⟩
  cases e : es.toList with
  | nil => rfl
  | cons x l =>
    rw [e] at hp
    cases hp
mutual
theorem Dz.reads (I : Inv X pins σ H s) : ∀ (d : PyData) (v : V) (u : Value), Dz X.K H v d → RelV v u → ∃ as, Reads s.heap u d as
  | .none, _, _, h, r => by
    cases h
    cases r
    exact ⟨_, Reads.none⟩
  | .bool b, _, _, h, r => by
    cases h
    cases r
    exact ⟨_, Reads.bool b⟩
  | .int i, _, _, h, r => by
    cases h
    obtain ⟨t, rfl⟩ := r
    exact ⟨_, Reads.int i t⟩
  | .str x, _, _, h, r => by
    cases h
    obtain ⟨t, rfl⟩ := r
    exact ⟨_, Reads.str x t⟩
  | .list ds, _, _, h, r => by
    cases h with
    | lst hs ha =>
      cases r
      obtain ⟨its, rv, ⟨o, n, ho, hc, _, hd⟩, _⟩ := I.list hs
      obtain ⟨as, q⟩ := Dz.readsAll I ds _ its ha rv
      exact ⟨_, Reads.list ho hc hd q⟩
  | .tuple ds, _, _, h, r => by
    cases h with
    | tup hs ha =>
      cases r
      obtain ⟨its, rv, ⟨o, ho, hc, n, hd⟩, _⟩ := I.tuple hs
      obtain ⟨as, q⟩ := Dz.readsAll I ds _ its ha rv
      exact ⟨_, Reads.tuple ho hc hd q⟩
  | .dict kvs, _, _, h, r => by
    cases h with
    | dic hs =>
      cases r
      obtain ⟨o, es, n, ho, hc, hd, he, _⟩ := emptyDict I hs
      exact ⟨_, Reads.dict (as := []) (bs := []) ho hc hd (by rw [he]; exact .nil) (by rw [he]; exact .nil)⟩
theorem Dz.readsAll (I : Inv X pins σ H s) : ∀ (ds : List PyData) (vs : List V) (us : List Value), DzA X.K H vs ds → Vals vs us → ∃ as, ReadsAll s.heap us ds as
  | [], _, _, h, r => by
    cases h
    cases r
    exact ⟨_, ReadsAll.nil⟩
  | d :: ds, _, _, h, r => by
    cases h with
    | cons h1 h2 =>
      cases r with
      | cons r1 r2 =>
        obtain ⟨as, q1⟩ := Dz.reads I d _ _ h1 r1
        obtain ⟨bs, q2⟩ := Dz.readsAll I ds _ _ h2 r2
        exact ⟨_, ReadsAll.cons q1 q2⟩
end
mutual
theorem Dz.told (I : Inv X pins σ H s) : ∀ (d : PyData) (v : V) (u : Value), Dz X.K H v d → RelV v u → d.showable = true → d.shown.length ≤ sizeLine → ∃ bs, ReadAtMost s.heap d.depth bs ∧ ReprK X.prog X.w bs s.heap d.depth u d.shown
  | .none, _, _, h, r, _, _ => by
    cases h
    cases r
    exact ⟨[], (fun _ z => nomatch z), by simp only [PyData.shown]; exact .of_is ReprIs.none _ _ _⟩
  | .bool b, _, _, h, r, _, _ => by
    cases h
    cases r
    exact ⟨[], (fun _ z => nomatch z), by simp only [PyData.shown]; exact .of_is (ReprIs.bool b) _ _ _⟩
  | .int i, _, _, h, r, hs, _ => by
    cases h
    obtain ⟨t, rfl⟩ := r
    exact ⟨[], (fun _ z => nomatch z), by simp only [PyData.shown]; exact .of_is (ReprIs.int t (by simpa [PyData.showable] using hs)) _ _ _⟩
  | .str x, _, _, h, r, _, hz => by
    cases h
    obtain ⟨t, rfl⟩ := r
    exact ⟨[], (fun _ z => nomatch z), by simp only [PyData.shown]; exact .of_is (ReprIs.str x t (by simpa only [PyData.shown] using hz)) _ _ _⟩
  | .list ds, v, u, h, r, hs, hz => by
    obtain ⟨_, rd⟩ := Dz.reads I _ _ _ h r
    cases h with
    | @lst a xs _ hq ha =>
      cases r
      obtain ⟨its, rv, ⟨o, n, ho, hc, _, hd⟩, _⟩ := I.list hq
      have hz1 : (listText (PyData.shownAll ds)).length ≤ sizeLine := by simpa only [PyData.shown] using hz
      obtain ⟨bs, hb, hk⟩ := Dz.toldAll I ds _ its ha rv (by simpa [PyData.showable] using hs) (fun t ht => Nat.le_trans (listText_mem_le ht) hz1)
      have hna : a ∉ bs := not_mem_of_deeper rd (by simp only [PyData.depth]; omega) hb
      refine ⟨a :: bs, ReadAtMost.cons rd (by simp only [PyData.depth]; omega) hb, ?_⟩
      simp only [PyData.depth, PyData.shown]
      cases its with
      | nil =>
        cases rv
        cases ha
        simp only [PyData.shownAll]
        rw [listText_nil]
        exact ReprK.listEmpty ho hc hd
      | cons y l => exact ReprK.list ho hc hd hna (by simpa using hk.length_eq) (fun i y e => hk.item i y (by simpa using e))
  | .tuple ds, v, u, h, r, hs, hz => by
    obtain ⟨_, rd⟩ := Dz.reads I _ _ _ h r
    cases h with
    | @tup a xs _ hq ha =>
      cases r
      obtain ⟨its, rv, ⟨o, ho, hc, n, hd⟩, _⟩ := I.tuple hq
      have hz1 : (tupleText (PyData.shownAll ds)).length ≤ sizeLine := by simpa only [PyData.shown] using hz
      obtain ⟨bs, hb, hk⟩ := Dz.toldAll I ds _ its ha rv (by simpa [PyData.showable] using hs) (fun t ht => Nat.le_trans (tupleText_mem_le ht) hz1)
      have hna : a ∉ bs := not_mem_of_deeper rd (by simp only [PyData.depth]; omega) hb
      refine ⟨a :: bs, ReadAtMost.cons rd (by simp only [PyData.depth]; omega) hb, ?_⟩
      simp only [PyData.depth, PyData.shown]
      exact ReprK.tuple ho hc hd hna (by simpa using hk)
  | .dict kvs, v, u, h, r, hs, hz => by
    obtain ⟨_, rd⟩ := Dz.reads I _ _ _ h r
    cases h with
    | @dic a hq =>
      cases r
      obtain ⟨o, es, n, ho, hc, hd, he, hsys⟩ := emptyDict I hq
      refine ⟨[a], fun b hb => ?_, ?_⟩
      · obtain rfl := List.mem_singleton.mp hb
        exact ⟨_, _, rd, Nat.le_refl _⟩
      · have k : ReprEntriesK X.prog X.w [] s.heap 0 es.toList [] := by rw [he]; exact .nil
        exact ReprK.dict (as := []) ho hc hd hsys (by simp) k
theorem Dz.toldAll (I : Inv X pins σ H s) : ∀ (ds : List PyData) (vs : List V) (us : List Value), DzA X.K H vs ds → Vals vs us → PyData.showableAll ds = true → (∀ t ∈ PyData.shownAll ds, t.length ≤ sizeLine) →
    ∃ bs, ReadAtMost s.heap (PyData.depthAll ds) bs ∧ ReprAllK X.prog X.w bs s.heap (PyData.depthAll ds) us (PyData.shownAll ds)
  | [], _, _, h, r, _, _ => by
    cases h
    cases r
    exact ⟨[], (fun _ z => nomatch z), by simp only [PyData.shownAll]; exact .nil⟩
  | d :: ds, _, _, h, r, hs, hz => by
    cases h with
    | cons h1 h2 =>
      cases r with
      | cons r1 r2 =>
        have hs2 : d.showable = true ∧ PyData.showableAll ds = true := by simpa [PyData.showableAll] using hs
        obtain ⟨b1, hb1, k1⟩ := Dz.told I d _ _ h1 r1 hs2.1 (hz _ (by simp only [PyData.shownAll]; exact List.mem_cons_self ..))
        obtain ⟨b2, hb2, k2⟩ := Dz.toldAll I ds _ _ h2 r2 hs2.2 (fun t ht => hz t (by simp only [PyData.shownAll]; exact List.mem_cons_of_mem _ ht))
        refine ⟨b1 ++ b2, ?_, ?_⟩
        · simp only [PyData.depthAll]
          exact (hb1.mono (Nat.le_max_left _ _)).append (hb2.mono (Nat.le_max_right _ _))
        · simp only [PyData.depthAll, PyData.shownAll]
          exact .cons ((k1.more fun b hb => List.mem_append_left _ hb).level_le (Nat.le_max_left _ _)) (k2.more_le (fun b hb => List.mem_append_right _ hb) (Nat.le_max_right _ _))
end
/-- what stands at an address, shown by its type's own repr -/
theorem Dz.shows (I : Inv X pins σ H s) {a : Addr} {d : PyData} (h : Dz X.K H (.ref a) d) (hs : d.showable = true) (hz : d.shown.length ≤ sizeLine) : ∃ T idr, ShowsBy X.prog X.w s.heap a d T idr := by
  obtain ⟨_, rd⟩ := Dz.reads I _ _ (Value.ref a) h rfl
  cases h with
  | @lst _ xs ds hq ha =>
    obtain ⟨its, rv, ⟨o, n, ho, hc, _, hd⟩, _⟩ := I.list hq
    have hz1 : (listText (PyData.shownAll ds)).length ≤ sizeLine := by simpa only [PyData.shown] using hz
    obtain ⟨bs, hb, hk⟩ := Dz.toldAll I ds _ its ha rv (by simpa [PyData.showable] using hs) (fun t ht => Nat.le_trans (listText_mem_le ht) hz1)
    have hna : a ∉ bs := not_mem_of_deeper rd (by simp only [PyData.depth]; omega) hb
    refine ⟨"list", "list.__repr__", F.slot_list_repr.toG, F.slot_list_str, F.slot_list_format, fun s' hk0 => ⟨o, hk0 _ _ ho, hc⟩, fun A E s' Q hg hu hk0 hQ => ?_⟩
    simp only [PyData.depth] at hu
    simp only [PyData.shown] at hQ
    cases its with
    | nil =>
      cases rv
      cases ha
      simp only [PyData.shownAll, listText_nil] at hQ
      exact call_list_repr_empty ⟨o, hk0 _ _ ho, hc⟩ (hk0 _ _ ho) hd (hQ s'.heap _ _ fun _ _ e => e)
    | cons y l => exact call_list_reprK ho hc hd hna (by simpa using hk.length_eq) (fun i z e => hk.item i z (by simpa using e)) hg (fun b _ => Clear.nil b) hu hk0 hQ hz1
  | @tup _ xs ds hq ha =>
    obtain ⟨its, rv, ⟨o, ho, hc, n, hd⟩, _⟩ := I.tuple hq
    have hz1 : (tupleText (PyData.shownAll ds)).length ≤ sizeLine := by simpa only [PyData.shown] using hz
    obtain ⟨bs, hb, hk⟩ := Dz.toldAll I ds _ its ha rv (by simpa [PyData.showable] using hs) (fun t ht => Nat.le_trans (tupleText_mem_le ht) hz1)
    have hna : a ∉ bs := not_mem_of_deeper rd (by simp only [PyData.depth]; omega) hb
    refine ⟨"tuple", "tuple.__repr__", F.slot_tuple_repr, F.slot_tuple_str, F.slot_tuple_format, fun s' hk0 => ⟨o, hk0 _ _ ho, hc⟩, fun A E s' Q hg hu hk0 hQ => ?_⟩
    simp only [PyData.depth] at hu
    simp only [PyData.shown] at hQ
    exact call_tuple_reprK ho hc hd hna (by simpa using hk) hg (fun b _ => Clear.nil b) hu hk0 hQ hz1
  | dic hq =>
    obtain ⟨o, es, n, ho, hc, hd, he, hsys⟩ := emptyDict I hq
    have k : ReprEntriesK X.prog X.w [] s.heap 0 es.toList [] := by rw [he]; exact .nil
    refine ⟨"dict", "dict.__repr__", F.slot_dict_repr, F.slot_dict_str, F.slot_dict_format, fun s' hk0 => ⟨o, hk0 _ _ ho, hc⟩, fun A E s' Q hg hu hk0 hQ => ?_⟩
    simp only [PyData.depth] at hu
    exact call_dict_reprK (as := []) ho hc hd hsys (by simp) k hg (fun b _ => Clear.nil b) (by omega) hk0 hQ (by decide +kernel)
end

/-- repr(x), x data; the answer is a text that its data alone tells -/
def rRepr (K : PySem.W.Frag) : List V → Hp → VK → Prop := fun xs H Q => ∃ v d, xs = [v] ∧ Dz K H v d ∧ d.showable = true ∧ d.depth ≤ 40 ∧ d.shown.length ≤ sizeLine ∧ Q (.str d.shown) H
theorem call_repr {X : Cx} {k : Nat} (c : Calm k X.A) : CallR X (.builtin "repr") (rRepr X.K) := by
  intro pins s σ H xs us Q I r h
  obtain ⟨v, d, rfl, hd, hs, hdp, hz, q⟩ := h
  cases r with
  | cons rv rn =>
    cases rn
    have hu := c.room.units
    cases hd with
    | non =>
      cases rv
      exact PySem.P.repr_of_none ⟨.str _, H, I.tok _, ⟨_, rfl⟩, q⟩
    | bl b =>
      cases rv
      exact PySem.P.repr_of_bool ⟨.str _, H, I.tok _, ⟨_, rfl⟩, q⟩
    | int i =>
      obtain ⟨t, rfl⟩ := rv
      exact PySem.P.repr_of_int (by simpa [PyData.showable] using hs) ⟨.str _, H, I.tok _, ⟨_, rfl⟩, q⟩
    | str x =>
      obtain ⟨t, rfl⟩ := rv
      exact PySem.P.repr_of_str ⟨.str _, H, I.tok _, ⟨_, rfl⟩, q⟩ (by simpa only [PyData.shown] using hz)
    | lst hq ha =>
      cases rv
      obtain ⟨T, idr, S⟩ := Dz.shows I (.lst hq ha) hs hz
      exact call_repr_slot (by omega) (S.typeIs s fun _ _ e => e) S.slotRepr (S.call X.A.in1 X.xe s _ c.gs (by show X.A.units + 1 + _ < cLine; omega) (fun _ _ e => e) fun h' u tk hk => ⟨_, _, rfl, .str _, H, I.kept (t' := tk) hk, ⟨_, rfl⟩, q⟩)
    | tup hq ha =>
      cases rv
      obtain ⟨T, idr, S⟩ := Dz.shows I (.tup hq ha) hs hz
      exact call_repr_slot (by omega) (S.typeIs s fun _ _ e => e) S.slotRepr (S.call X.A.in1 X.xe s _ c.gs (by show X.A.units + 1 + _ < cLine; omega) (fun _ _ e => e) fun h' u tk hk => ⟨_, _, rfl, .str _, H, I.kept (t' := tk) hk, ⟨_, rfl⟩, q⟩)
    | dic hq =>
      cases rv
      obtain ⟨T, idr, S⟩ := Dz.shows I (.dic hq) hs hz
      exact call_repr_slot (by omega) (S.typeIs s fun _ _ e => e) S.slotRepr (S.call X.A.in1 X.xe s _ c.gs (by show X.A.units + 1 + _ < cLine; omega) (fun _ _ e => e) fun h' u tk hk => ⟨_, _, rfl, .str _, H, I.kept (t' := tk) hk, ⟨_, rfl⟩, q⟩)
end XK
end
section
set_option Elab.async false
set_option linter.all false
set_option maxRecDepth 100000
set_option maxHeartbeats 4000000
/-! A caught exception that is kept: tracked by its class and its own dict. -/
namespace XK
open PySem PySem.Spec PyProof.Rows L2

/-- at a: an exception object of the class cls, its own dict d -/
def Xo (a : Addr) (cls : Value) (d : Option Addr) : HO := .ext fun h => ∃ (oe : Obj) (vs : Array Value), h.get? a = some oe ∧ Zc cls d oe ∧ oe.data = .fields vs
theorem xo_ok {P : Program} {w : World} {H : Hp} {h : Heap} {a : Addr} {cls : Value} {d : Option Addr} {oe : Obj} {vs : Array Value} (e : h.get? a = some oe) (z : Zc cls d oe) (f : oe.data = .fields vs) : ObjOk P w H h a (Xo a cls d) :=
  ⟨⟨oe, vs, e, z, f⟩, ⟨oe, e⟩, fun _ _ ⟨o, v, q, r⟩ k => ⟨o, v, k o q, r⟩⟩
theorem xo_at {P : Program} {w : World} {H : Hp} {h : Heap} {a : Addr} {cls : Value} {d : Option Addr} (ok : HOk P w H h) (e : H a = some (Xo a cls d)) : ∃ (oe : Obj) (vs : Array Value), h.get? a = some oe ∧ Zc cls d oe ∧ oe.data = .fields vs := by
  have x : ObjOk P w H h a (Xo a cls d) := ok a _ e
  exact x.1

section
variable {X : Cx} {pins : List (Addr × Obj)} {σ : L2.St} {H : Hp} {s : Shared} {a : Addr} {cls : Value} {d : Option Addr}
/-- a new exception object is tracked from here on -/
theorem Inv.track (I : Inv X pins σ H s) {oe : Obj} {vs : Array Value} (e : s.heap.get? a = some oe) (z : Zc cls d oe) (f : oe.data = .fields vs) (na : H a = none) (n0 : X.s_0.heap.get? a = none) (np : ∀ p ∈ X.pn ++ pins, p.1 ≠ a) :
    Inv X pins σ (upd H a (Xo a cls d)) s := by
  have nL : X.env.locals ≠ a := fun q => by
    obtain ⟨m, ⟨o, es, ep, ho, hd, _⟩, _⟩ := I.loc
    rw [q, e] at ho
    cases ho
    rw [f] at hd
    cases hd
  have nC : ∀ x c, X.env.cells.lookup x = some c → c ≠ a := fun x c hc q => by
    obtain ⟨v, o, ho, hd⟩ := I.cell x c hc
    rw [q, e] at ho
    cases ho
    rw [f] at hd
    cases hd
  have n0' : ∀ {b : Addr} {o : Obj}, X.s_0.heap.get? b = some o → b ≠ a := fun {b o} q r => by
    rw [r, n0] at q
    cases q
  refine ⟨I.ok, I.os, I.bare, ⟨I.base.keep, I.base.slot, fun b o q n hx => ?_, I.base.there, fun b xs q => ?_, fun b o u q => ?_, fun b ps q => ?_⟩, I.loc, I.cell, ?_, fun x c hc => ?_, fun p hp => ?_, fun b o q => ?_, I.len⟩
  · rw [upd_ne (n0' q)]
    exact I.base.free b o q n hx
  · have r := I.base.tups b xs q
    rw [upd_ne (ne_of_none r na)]
    exact r
  · have r := I.base.frzs b o u q
    rw [upd_ne (ne_of_none r na)]
    exact r
  · obtain ⟨m, r⟩ := I.base.tbls b ps q
    exact ⟨m, by rw [upd_ne (ne_of_none r na)]; exact r⟩
  · rw [upd_ne nL]
    exact I.free
  · rw [upd_ne (nC x c hc)]
    exact I.freeC x c hc
  · obtain ⟨q1, q2, q3, q4, q5⟩ := I.pin p hp
    exact ⟨q1, by rw [upd_ne (np p hp)]; exact q2, q3, q4, q5⟩
  · by_cases hb : b = a
    · subst hb
      rw [upd_same] at q
      cases q
      exact xo_ok e z f
    · rw [upd_ne hb] at q
      exact (I.hok b o q).stay (fun c v _ r => r) (fun c r => by rw [upd_ne (ne_of_none r na)]; exact r) fun c xs r => by rw [upd_ne (ne_of_none r na)]; exact r
theorem Inv.toSuite (I : Inv X pins σ H s) (a : Addr) : Inv (X.suite a (X.pn ++ pins)) [] σ H s :=
  ⟨I.ok.suite _ _, I.os, I.bare, I.base, I.loc, I.cell, I.free, I.freeC, fun p hp => I.pin p (by rw [List.append_nil] at hp; exact hp), I.hok, I.len⟩
theorem Inv.offSuite {pn' : List (Addr × Obj)} (I : Inv (X.suite a (X.pn ++ pins)) pn' σ H s) (ok : X.Ok) : Inv X pins σ H s :=
  ⟨ok, I.os, I.bare, I.base, I.loc, I.cell, I.free, I.freeC, fun p hp => I.pin p (List.mem_append_left _ hp), I.hok, I.len⟩
end
theorem flying_more {base h h' : Heap} {l : List Env} {e : Addr} {Z : Obj → Prop} (x : HandSPX.FlyingZ base l e Z h) (k : ∀ b o, h.get? b = some o → h'.get? b = some o) : HandSPX.FlyingZ base l e Z h' := by
  obtain ⟨x1, x2, x3, oe, vs, T, oT, ts, y1, y2, y3, y4, y5, y6, y7, y8, y9⟩ := x
  exact ⟨fun b o q => k b o (x1 b o q), x2, Heap.FunFrames.of_keeps (fun b o q _ => ⟨o, k b o q, rfl⟩) x3, oe, vs, T, oT, ts, k _ _ y1, y2, y3, y4, y5, y6, k _ _ y7, y8, y9⟩

/-- what 'except (c1, c2, c3) as n' wishes of an exception of the body: it is one of these; from then on it is tracked -/
def wKeep (K : PySem.W.Frag) (cs : List Value) (i : Nat) (ts : TS) (D : Ends) : WX := fun cls d σ H =>
  PySem.W.exmAny K cls cs = some true ∧ ∀ a, H a = none → ts { nx := fun σ' H' => D.nx (σ'.set i none) H', rt := D.rt, bk := fun σ' H' => D.bk (σ'.set i none) H', ct := fun σ' H' => D.ct (σ'.set i none) H' } (σ.set i (some (.ref a))) (upd H a (Xo a cls d))
section
variable {X : Cx} {x1 x2 x3 n : Str} {c1 c2 c3 : Addr} {i : Nat} {body suite : List Stmt} {b₀ : Stmt} {k : Nat} {q1 q2 q3 q4 pos pos' : Pos} {tb : WX → TS} {ts : TS}
theorem ps_keep (hs : X.stack = X.env :: X.outer) (hf : X.env.frame = some X.env.locals) (hex : X.ex = []) (hN : X.N.Nodup) (hi : X.N[i]? = some n) (hln : X.env.kindOf n = some .local)
    (g1 : Gl X x1) (m1 : X.mg x1 = some (.ref c1)) (g2 : Gl X x2) (m2 : X.mg x2 = some (.ref c2)) (g3 : Gl X x3) (m3 : X.mg x3 = some (.ref c3))
    (hb : ∀ (W : WX) (pn : List (Addr × Obj)) (xe : Value → Shared → Prop), Takes (X.tr pn xe) W → PSs (X.tr pn xe) body (tb W))
    (hsu : ∀ (a : Addr) (pn : List (Addr × Obj)), PSs (X.suite a pn) (b₀ :: suite) ts)
    (d1 : (x1 == ("__debug__" : Str)) = false := by decide) (d2 : (x2 == ("__debug__" : Str)) = false := by decide) (d3 : (x3 == ("__debug__" : Str)) = false := by decide)
    (st1 : starEach [.Name x1 q1, .Name x2 q2, .Name x3 q3] X.env = (false, eval (.Name x1 q1) X.env) :: (false, eval (.Name x2 q2) X.env) :: (false, eval (.Name x3 q3) X.env) :: starEach [] X.env := by rfl) :
    PS X (.Try body [.ExceptHandler (some (.Tuple [.Name x1 q1, .Name x2 q2, .Name x3 q3] k q4)) (some n) (b₀ :: suite) pos'] [] [] pos) (fun D σ H => tb (wKeep X.K [.ref c1, .ref c2, .ref c3] i ts D) D σ H) := by
  refine ⟨fun pins s σ H D I h => ?_⟩
  have ok := I.ok
  have hfr : X.A.frames = some (X.env :: X.outer) := by rw [ok.frames, hs]
  refine wpAny_Try_except (wpAny_mono ((hb (wKeep X.K [.ref c1, .ref c2, .ref c3] i ts D) (X.pn ++ pins) (fun e s₁ => wpAny (model X.prog X.w) X.A (noteFrame e X.env) (fun _ s₂ => wpAny (model X.prog X.w) X.A (setFlight e none) (fun _ s₃ =>
    wpAny (model X.prog X.w) X.A (handleBy e X.env [.ExceptHandler (some (.Tuple [.Name x1 q1, .Name x2 q2, .Name x3 q3] k q4)) (some n) (b₀ :: suite) pos']) (SP X pins D) X.xe s₃) X.xe s₂) X.xe s₁) (fun u s' xx => ?_)).run [] s σ H D (I.toTry _) h) (fun f s1 hsp => ?_) (fun e s1 he => he))
  · obtain ⟨a, B, sI, pins', σ', H', cls, d, rfl, J', nb, up, sky, na, os, ag, hx, go⟩ := xx
    have J : Inv X pins σ' H' sI := J'.ofTry ok
    have sky' : Sky B (X.env :: X.outer) a (Zc cls d) X.env.locals s'.heap := by rw [← hs]; exact sky
    refine Sky.land Zc.steady hfr hf sky' fun h3 fl3 up3 => ?_
    have hBa : B.get? a = none := fl3.2.1
    have nfr : a ∉ frs X.stack := fun hm => by
      obtain ⟨oe, vs, e, _, dd⟩ := fl3.there
      rw [hs] at hm
      obtain ⟨_, o', e', hnf⟩ := fl3.2.2.1.mem hm
      rw [e] at e'
      cases e'
      exact hnf _ dd
    have nI : sI.heap.get? a = none := by
      cases e : sI.heap.get? a with
      | none => rfl
      | some o =>
        rw [nb a o e nfr] at hBa
        cases hBa
    have n0 : X.s_0.heap.get? a = none := by
      cases e : X.s_0.heap.get? a with
      | none => rfl
      | some o =>
        obtain ⟨o', e'⟩ := J.base.there a o e (by rw [hex]; exact fun z => nomatch z)
        rw [nI] at e'
        cases e'
    have np : ∀ p ∈ X.pn ++ pins, p.1 ≠ a := fun p hp z => by
      obtain ⟨e, _⟩ := J.pin p hp
      rw [z, nI] at e
      cases e
    have J3 : Inv X pins σ' H' { s' with heap := h3 } := J.landed nb fl3.1 (up.trans up3) os ag
    have S3 := Inv.toSuite J3 a
    refine wpAny_handleBy_cons (codeAny_handlers_test (wpAny_Tuple_spliced ?_)) (by intro q; cases q)
    rw [st1]
    refine Calls.spliced_cons (ld_glob (X := X.suite a (X.pn ++ pins)) S3 g1 m1 (Calls.spliced_cons (ld_glob (X := X.suite a (X.pn ++ pins)) S3 g2 m2 (Calls.spliced_cons (ld_glob (X := X.suite a (X.pn ++ pins)) S3 g3 m3 (Calls.spliced_nil ⟨by show 3 ≤ sizeLine; decide, ?_⟩) d3)) d2)) d1)
    have kp : ∀ b o, h3.get? b = some o → (h3.push { cls := .type "tuple", data := .seq [Value.ref c1, Value.ref c2, Value.ref c3].toArray }).get? b = some o := fun b o e => Heap.get?_push_of_some _ e
    obtain ⟨oe3, vs3, he3, hz3, hd3⟩ := fl3.there
    have LT : PySem.W.Looks (model X.prog X.w) (h3.push { cls := .type "tuple", data := .seq [Value.ref c1, Value.ref c2, Value.ref c3].toArray }) (typeOf (.ref a)) cls := fun A Q E s r q => wpAny_typeOf_ref (r _ _ (kp _ _ he3)) (by rw [hz3.1]; exact q)
    refine (PySem.W.exm_tup3 (J3.kIn.keeps kp) LT (Heap.get?_push_size _ rfl) hx).here ?_
    show codeAny _ _ _ _ _
    refine codeAny_handlers_suite_as ?_
    refine HandSPX.lands_againZ (flying_more fl3 kp) fun h4 fl4 up4 => ?_
    have upA : sI.heap.UpToSlots h4 := ((up.trans up3).trans (Heap.UpToSlots.of_keeps kp)).trans up4
    have J4 : Inv X pins σ' H' { s' with heap := h4 } := J.landed nb fl4.1 upA os ag
    obtain ⟨oe4, vs4, he4, hz4, hd4⟩ := fl4.there
    have S4 := Inv.toSuite (Inv.track J4 he4 hz4 hd4 na n0 np) a
    refine store_ok (X := X.suite a (X.pn ++ pins)) (v := .ref a) S4 hN hi (.inl hln) rfl (fun s5 S5 => ?_) (.inr hln)
    refine wpAny_mono ((hsu a (X.pn ++ pins)).run [] s5 _ _ _ S5 (go a na)) (fun f s6 hsp => ?_) (fun _ _ z => False.elim z)
    have fin : ∀ {σ6 : L2.St} {H6 : Hp} {Q : Shared → Prop}, Inv (X.suite a (X.pn ++ pins)) [] σ6 H6 s6 → (∀ s7, Inv X pins (σ6.set i none) H6 s7 → Q s7) →
        wpAny (model X.prog X.w) X.A (do bindName X.env n .none; unbindBehindTheSuite X.env n pos') (fun _ s7 => Q s7) X.xe s6 := fun {σ6 H6 Q} S6 hq => gone_ok (Inv.offSuite S6 ok) hN hi hln hq
    cases f with
    | next =>
      obtain ⟨σ6, H6, S6, q6⟩ := hsp
      exact fin S6 fun s7 J7 => ⟨_, _, J7, q6⟩
    | brk =>
      obtain ⟨σ6, H6, S6, q6⟩ := hsp
      exact fin S6 fun s7 J7 => ⟨_, _, J7, q6⟩
    | cont =>
      obtain ⟨σ6, H6, S6, q6⟩ := hsp
      exact fin S6 fun s7 J7 => ⟨_, _, J7, q6⟩
    | ret u =>
      obtain ⟨v6, σ6, H6, S6, r6, q6⟩ := hsp
      exact fin S6 fun s7 J7 => ⟨_, _, _, J7, r6, q6⟩
  · cases f with
    | next =>
      obtain ⟨σ', H', J', q⟩ := hsp
      exact wpAny_execs_nil ⟨σ', H', J'.ofTry ok, q⟩
    | brk =>
      obtain ⟨σ', H', J', q⟩ := hsp
      exact ⟨σ', H', J'.ofTry ok, q⟩
    | cont =>
      obtain ⟨σ', H', J', q⟩ := hsp
      exact ⟨σ', H', J'.ofTry ok, q⟩
    | ret u =>
      obtain ⟨v, σ', H', J', r, q⟩ := hsp
      exact ⟨v, σ', H', J'.ofTry ok, r, q⟩
end
end XK
end
section
set_option Elab.async false
set_option linter.all false
set_option maxRecDepth 100000
set_option maxHeartbeats 4000000
/-! An own exception class with one field: raised, its field read, asked by isinstance. -/
namespace XK
open PySem PySem.Spec PyProof.Rows L2

/-- what the top has written of the class x (at C, its __init__ at fI, its field f) -/
structure Ec (K : PySem.W.Frag) (mg : Str → Option Value) (x : Str) (C fI : Addr) (f : Str) : Prop where
  gC : mg x = some (.ref C)
  ox : OexC K C
  iC : PySem.W.findIn K (.ref C) "__init__" = some (some (.ref fI))
  tI : PySem.W.typeIn K (.ref fI) = some (.type "function")
  nf : PySem.W.findIn K (.ref C) f = some none
  xf : XfC K C
  ec : ExcC K C

def spIni (C : Addr) (f : Str) : Sp := fun vs H Q _ => ∃ (a : Addr) (v : V), vs = [.ref a, v] ∧ H a = some (exo a C none) ∧ ∀ dx, H dx = none → dx ≠ a → Q .non (upd (upd H dx (exd dx [(f, v)])) a (exo a C (some dx)))

section
variable {P : Program} {w : World} {K : PySem.W.Frag} {mg : Str → Option Value} {base : Heap} {x f : Str} {C fI : Addr} {fd : FuncData} {st : Stmt} {q : Str}
/-- def __init__(self, f): self.f = f -/
theorem ini_ok (T : Ec K mg x C fI f) (F : Fun K "__init__" q st fI fd) (S : FnScope ["self", f] ["self", f] (defScope st)) {p1 p2 p3 p4 : Pos} (hb : defBody st = [.Assign [.Attribute (.Name "self" p1) f p2] (.Name f p3) p4])
    (v0 : Vis (defScope st) "self") (v1 : Vis (defScope st) f) (hd : (f == ("__debug__" : Str)) = false) (hcd : (f == ("__classdict__" : Str)) = false) : FnOk P w K mg base (L2.CX P w) 1 fI fd ["self", f] (spIni C f) := by
  refine F.okX S (fun vs H Q E h => ?_) (fun cdv A outer s H vs Q E hr h => ?_)
  · obtain ⟨a, v, rfl, _⟩ := h
    rfl
  · obtain ⟨a, v, rfl, ha, go⟩ := h
    rw [hb]
    refine ⟨_, pss_one (ps_ost (pe_var (i := 0) rfl v0 (by decide) (by decide)) (pe_var (i := 1) rfl v1 hd hcd)), ?_⟩
    exact ⟨v, rfl, .ref a, rfl, a, C, rfl, T.ox, T.nf, Or.inl ⟨ha, fun dx hn hne => go dx hn hne⟩⟩
end

section
variable {X : Cx} {x f : Str} {C fI : Addr} {fd : FuncData} {W : WX} {e : Expr} {te : TE} {p pos pos2 : Pos}
theorem ini_end {H : Hp} {a d : Addr} {v : V} (ha : H a = none) (hd : d ≠ a) : upd (del (upd (upd (upd H a (exo a C none)) d (exd d [(f, v)])) a (exo a C (some d))) a) d (.xd [(f, v)]) = upd H d (.xd [(f, v)]) := by
  funext b
  by_cases h1 : b = d
  · subst h1
    rw [upd_same, upd_same]
  · rw [upd_ne h1, upd_ne h1]
    by_cases h2 : b = a
    · subst h2
      rw [del_same, ha]
    · rw [del_ne h2, upd_ne h2, upd_ne h1, upd_ne h2]
/-- a reading that may be weakened -/
def up1 (te : TE) : TE := fun σ H Q => ∃ Q0 : VK, te σ H Q0 ∧ ∀ v H', Q0 v H' → Q v H'
theorem pe_up (he : PE X e te) : PE X e (up1 te) := ⟨fun pins s σ H Q I ⟨Q0, h, k⟩ => thn (he.run pins s σ H Q0 I h) fun u s1 ⟨v, H1, I1, r, q⟩ => ⟨v, H1, I1, r, k v H1 q⟩⟩
/-- raise x(e) -/
def tRz (C : Addr) (f : Str) (W : WX) (te : TE) : TS := fun _ σ H => te σ H fun v H1 => ∀ d, H1 d = none → W (.ref C) (some d) σ (upd H1 d (.xd [(f, v)]))
theorem ps_rz (T : Ec X.K X.mg x C fI f) (F : FnOk X.prog X.w X.K X.mg X.base (L2.CX X.prog X.w) 1 fI fd ["self", f] (spIni C f)) (hb : Binds X.K fd ["self", f] []) (hr : Room 2 X.A) (hc : X.calm = true) (tk : Takes X W) (he : PE X e te) (hg : Gl X x)
    (hdb : (x == ("__debug__" : Str)) = false := by decide) (hst : starEach [e] X.env = (false, eval e X.env) :: starEach [] X.env := by rfl) (hpl : (backTo pos (starEach [] X.env)).any (·.1) = false := by rfl) :
    PS X (.Raise (some (.Call (.Name x p) [e] [] pos)) none pos2) (tRz C f W te) := by
  have R := ps_raise (pos := pos2) hc tk (pmk_oex (p := p) (pos := pos) T.ox T.iC T.tI F hr hb .nil (fun _ _ _ _ _ _ _ h => by obtain ⟨_, _, _, _, _, _, _, _, _, _, _, _, z⟩ := h; exact z.elim) hg T.gC (pa_cons (pe_up he) pa_nil hst) hdb hst hpl)
  refine ⟨fun pins s σ H D I h => R.run pins s σ H D I ⟨_, h, fun v H1 k => ⟨by show 1 ≤ 1000; decide, fun a ha => ⟨a, v, rfl, upd_same, fun dx hn hne => ⟨rfl, dx, [(f, v)], upd_same, by rw [upd_ne hne, upd_same], by rw [upd_ne hne] at hn; exact hn, ?_⟩⟩⟩⟩⟩
  rw [ini_end ha hne]
  rw [upd_ne hne] at hn
  exact k dx hn

/-- e.n, e a kept exception -/
def tXo (K : PySem.W.Frag) (n : Str) (te : TE) : TE := fun σ H Q => te σ H fun x H1 => ∃ (a C d : Addr) (fs : List (Str × V)) (v : V), x = .ref a ∧ H1 a = some (Xo a (.ref C) (some d)) ∧ H1 d = some (.xd fs) ∧ XfC K C ∧ PySem.W.findIn K (.ref C) n = some none ∧ fs.lookup n = some v ∧ Q v H1
theorem xo_inst {pins : List (Addr × Obj)} {σ : L2.St} {H : Hp} {s : Shared} {a C d : Addr} {fs : List (Str × V)} (I : Inv X pins σ H s) (ea : H a = some (Xo a (.ref C) (some d))) (ed : H d = some (.xd fs)) :
    ∃ (oe od : Obj) (mA : Str → Option Value), PySem.W.InstAt s.heap a oe C (some od) ∧ (∀ n, PySem.W.lookIn n od = some (mA n)) ∧ ∀ n, RelO (fs.lookup n) (mA n) := by
  obtain ⟨oe, vs, he, hz, hd⟩ := xo_at I.hok ea
  obtain ⟨mA, hns, hr⟩ := (show ObjOk X.prog X.w H s.heap d (.xd fs) from I.hok d _ ed)
  obtain ⟨od, ho, hl⟩ := lookIn_ns hns
  exact ⟨oe, od, mA, ⟨he, hz.1, by unfold PySem.W.notCls; rw [hd] <;> rfl, by rw [hz.2]; exact ho⟩, hl, hr⟩
theorem pe_xo {n : Str} (he : PE X e te) (hb : attributeBase e n X.env (eval e X.env) = eval e X.env := by rfl) : PE X (.Attribute e n pos) (tXo X.K n te) := by
  refine ⟨fun pins s σ H Q I h => attr_of hb (thn (he.run pins s σ H _ I h) fun u s1 hh => ?_)⟩
  obtain ⟨x, H1, I1, rx, a, C, d, fs, v, rfl, ea, ed, T, hno, l, q⟩ := hh
  obtain rfl : u = Value.ref a := rx
  obtain ⟨oe, od, mA, J, hl, hr⟩ := xo_inst I1 ea ed
  obtain ⟨u, hu, ru⟩ := RelO.some_of (v := v) (o := mA n) (by rw [← l]; exact hr n)
  exact HandSPX.exc_get I1.kIn J T.ga T.gg T.exC (PySem.W.findObj_own T.hdC hno rfl (by rw [hl, hu])) (handed_of ru) ⟨v, H1, I1.tok _, ru, q⟩

/-- isinstance(e, c), e a kept exception -/
def rIsX (K : PySem.W.Frag) : List V → Hp → VK → Prop := fun xs H Q => ∃ (a C d : Addr) (fs : List (Str × V)) (c : V) (cv : Value) (b : Bool), xs = [.ref a, c] ∧ ClsV c cv ∧ H a = some (Xo a (.ref C) (some d)) ∧ H d = some (.xd fs) ∧ ExcC K C ∧ PySem.W.kitOne K (.ref C) cv = some b ∧ Q (.bl b) H
theorem kit_x {C a : Addr} {oe : Obj} {od : Option Obj} (T : ExcC X.K C) : PySem.W.KitX X.K (.ref a) (.ref C) (fun h => PySem.W.InstAt h a oe C od) :=
  PySem.W.kitx_exc (by
    obtain ⟨cd, hc, _⟩ := PySem.W.any_some T.hd
    rw [hc] <;> rfl) T.hg T.hk T.hs T.ha T.hn T.ht T.hm
theorem call_isx : CallR X (.builtin "isinstance") (rIsX X.K) := by
  intro pins s σ H xs us Q I r h
  obtain ⟨a, C, d, fs, c, cv, b, rfl, k, ea, ed, T, e, q⟩ := h
  obtain ⟨u1, u2, rfl, r1, r2⟩ := vals2 r
  have e2 := k.eq r2
  subst e2
  cases (show u1 = Value.ref a from r1)
  obtain ⟨oe, od, mA, J, _, _⟩ := xo_inst I ea ed
  exact PySem.W.kia_one (kit_x T) I.kIn J e (fun z => nomatch z) fun tk => ⟨.bl b, H, I.tok tk, rfl, q⟩
end
end XK
end
section
set_option Elab.async false
set_option linter.all false
set_option maxRecDepth 100000
set_option maxHeartbeats 4000000
/-! enumerate over a tuple, over a text. -/
namespace PySem
set_option maxHeartbeats 4000000 in
theorem xk_enum_new {v : Value} {o : Obj} {G : Heap → Prop} (B : Begins v o G) :
    Meets (Builtin.«enumerate.__new__» ⟨[.type "enumerate", v], []⟩) (fun _ R s => G s.heap ∧
      R (.ok (.ret (.ref (s.heap.push o).objs.size))) { s with heap := (s.heap.push o).push { cls := .type "enumerate", data := .fields #[.none, .bool false, .ref s.heap.objs.size, rawInt 0, .none, .none] } }) :=
  .of_wp fun prog w A R s h => by
    obtain ⟨hp, g, d, tk, os⟩ := s
    obtain ⟨h1, h⟩ := h
    have sb := sub_enumerate
    have it1 : ∀ {A' : Around} {E : Value → Shared → Prop} {Q : Value → Shared → Prop}, Q (.ref hp.objs.size) ⟨hp.push o, g, d, tk, os⟩ → wpAny (model prog w) A' (pyIter v) Q E ⟨hp, g, d, tk, os⟩ :=
      fun q => B.iter prog w _ _ ⟨hp, g, d, tk, os⟩ _ h1 q
    wp_walk using it1
    refine wpAny_stack_any fun st => wpAny_pure ?_
    split
    · rename_i c _ _ _ _ _
      cases (c == Value.type "enumerate")
      · wp_walk using it1
        exact ⟨_, rfl, h⟩
      · wp_walk using it1
        exact ⟨_, rfl, h⟩
    · wp_walk using it1
      exact ⟨_, rfl, h⟩
theorem xk_enum_call {prog : Program} {w : World} {A : Around} {E : Value → Shared → Prop} {s : Shared} {v : Value} {o : Obj} {G : Heap → Prop} {Q : Value → Shared → Prop} (B : Begins v o G) (h1 : G s.heap)
    (h : ∀ h', IsEnum h' (s.heap.objs.size + 1) s.heap.objs.size 0 .none → h'.get? s.heap.objs.size = some o → (∀ b o, s.heap.get? b = some o → h'.get? b = some o) → Q (.ref (s.heap.objs.size + 1)) { s with heap := h' }) :
    wpAny (model prog w) A (call (.type "enumerate") [v]) Q E s := by
  refine callType_new F.called_enumerate (by decide) (F.typeCall_enumerate_1 _) (F.newCall_enumerate_1 _) (fun obj => F.args_object_init_2 obj _) F.entry_enumerate_new (xk_enum_new B) ⟨h1, ?_⟩
  have sz : (s.heap.push o).objs.size = s.heap.objs.size + 1 := Heap.size_push ..
  show _ ∧ _
  rw [sz]
  have en : IsEnum ((s.heap.push o).push { cls := .type "enumerate", data := .fields #[.none, .bool false, .ref s.heap.objs.size, rawInt 0, .none, .none] }) (s.heap.objs.size + 1) s.heap.objs.size 0 .none := by
    have z := Heap.get?_push_size (s.heap.push o) (o := { cls := .type "enumerate", data := .fields #[.none, .bool false, .ref s.heap.objs.size, rawInt 0, .none, .none] }) rfl
    rw [sz] at z
    exact z
  exact ⟨⟨_, en, rfl⟩, h _ en (Heap.get?_push_of_some _ (Heap.get?_push_size _ B.free)) fun b u x => Heap.get?_push_of_some _ (Heap.get?_push_of_some _ x)⟩
end PySem
namespace XK
open PySem PySem.Spec PyProof.Rows L2

/-- the tuple at a, its items with their numbers, in new pairs -/
def Iet (K : PySem.W.Frag) (a : Addr) (xs : List V) : It :=
  ⟨fun i H => SqT K H a xs ∧ i < xs.length, fun i H v H' => ∃ T x, v = .ref T ∧ H T = none ∧ H' = upd H T (.tup [.int (i : Nat), x]) ∧ xs[i]? = some x, fun i H => SqT K H a xs ∧ i = xs.length⟩
/-- a text's signs with their numbers -/
def Ies (z : Str) : It :=
  ⟨fun i _ => i < z.cps.size, fun i H v H' => ∃ T c, v = .ref T ∧ H T = none ∧ H' = upd H T (.tup [.int (i : Nat), .str ⟨#[c]⟩]) ∧ z.cps[i]? = some c, fun i _ => i = z.cps.size⟩
section
variable {P : Program} {w : World} {K : PySem.W.Frag} {elts : List Expr} {kk : Nat} {tpos : Pos}
/-- one pair handed out -/
theorem enum_step {X : Cx} {pins : List (Addr × Obj)} {σ : L2.St} {H : Hp} {s : Shared} {E : Value → Shared → Prop} {e it : Addr} {fp : List Addr} {n i : Nat} {Pr : Nat → Value → Prop} {St : Nat → Heap → Prop} {J : It} {tn : Nat → Heap → Prop} {old : Value}
    (I : Inv X pins σ H s) (hf : ∀ b ∈ [e, it], FpOk X pins H b) (D : Draws X.prog X.w X.A.in1 it fp n Pr St) (he : IsEnum s.heap e it ((i : Nat) : Int) old) (hst : St i s.heap) (hlt : i < n) (hne : e ≠ it) (hef : e ∉ fp)
    (val : ∀ u, Pr i u → ∃ x, RelV x u ∧ ∀ T, H T = none → J.yld i H (.ref T) (upd H T (.tup [.int (i : Nat), x])))
    (nxt : ∀ h' u, IsEnum h' e it ((i + 1 : Nat) : Int) u → St (i + 1) h' → tn (i + 1) h') :
    wpAny (model X.prog X.w) X.A (pyNext (.ref e)) (fun r s1 => ∃ u, r = some u ∧
      wpAny (model X.prog X.w) X.A (letOwnedTupleGo (.Tuple elts kk tpos) (.ref e) u) (fun _ s2 => ∃ x H', Inv X pins σ H' s2 ∧ RelV x u ∧ J.yld i H x H' ∧ tn (i + 1) s2.heap ∧ ∀ b ∈ [e, it], H' b = none) E s1) E s := by
  have hel : e < s.heap.objs.size := Heap.lt_size he
  have hil : it < s.heap.objs.size := by obtain ⟨o, q⟩ := D.live _ _ hst; exact Heap.lt_size q
  refine wpAny_pyNext_enum_itemD D he hst hlt hne hef fun u h' tk hu ho hst' hT hsz hk => ?_
  obtain ⟨x, ru, hy⟩ := val u hu
  refine ⟨_, rfl, wpAny_letOwnedTupleGo_enum (s := { s with heap := h', toks := tk + 1 }) ho fun h2 he2 sb => ?_⟩
  have hT2 : h2.get? s.heap.objs.size = some { cls := .type "tuple", data := .seq #[.int i tk, u] } := (sb.2 _ (Nat.ne_of_gt hel)).trans hT
  have new : ObjOk X.prog X.w (upd H s.heap.objs.size (.tup [.int (i : Nat), x])) h2 s.heap.objs.size (.tup [.int (i : Nat), x]) :=
    ⟨by show 2 ≤ sizeLine; decide, [.int i tk, u], .cons ⟨_, rfl⟩ (.cons ru .nil), ⟨_, hT2, rfl, _, rfl⟩⟩
  have I1 : Inv X pins σ (upd H s.heap.objs.size (.tup [.int (i : Nat), x])) { s with heap := h2, toks := tk + 1 } :=
    I.turnedNew (ch := [e, it]) (fun b ob hb q => (sb.2 b (fun z => hb (by simp [z]))).trans (hk b ob (fun z => hb (by simp [z])) (fun z => hb (by simp [z])) q)) hf (Nat.le_refl _) new
  have fr := I.hok.fresh (Nat.le_refl s.heap.objs.size)
  refine ⟨.ref s.heap.objs.size, _, I1, rfl, hy _ fr, nxt _ u ?_ (D.frame _ _ _ hst' fun b hb o q => (sb.2 b fun z => hef (z ▸ hb)).trans q), fun b hb => ?_⟩
  · have e1 : ((i + 1 : Nat) : Int) = (i : Int) + 1 := by omega
    rw [e1]
    exact he2
  · have hb' : b < s.heap.objs.size := by
      have e' : b = e ∨ b = it := by simpa using hb
      rcases e' with z | z
      · rw [z]; exact hel
      · rw [z]; exact hil
    rw [upd_ne (Nat.ne_of_lt hb')]
    exact (hf b hb).1
theorem turn_et (a e it : Addr) (xs : List V) :
    Turn P w K (.Tuple elts kk tpos) (Iet K a xs) [e, it] e (fun i h => (∃ old, IsEnum h e it ((i : Nat) : Int) old) ∧ h.IsTupleIter it a i ∧ e ≠ it ∧ e ≠ a ∧ a ≠ it) where
  mem := by simp
  obj := fun i h st b hb => by
    obtain ⟨⟨old, he⟩, ⟨o, ho, hc, hd⟩, _⟩ := st
    have e' : b = e ∨ b = it := by simpa using hb
    rcases e' with z | z
    · rw [z]; exact ⟨_, he, fun v q => nomatch q⟩
    · rw [z]; exact ⟨o, ho, fun v q => by rw [hd] at q; cases q⟩
  keep := fun i h h' st k => let ⟨⟨old, he⟩, hi, hne⟩ := st; ⟨⟨old, k e (by simp) _ he⟩, hi.at fun o q => k it (by simp) o q, hne⟩
  item := by
    intro X hP hw hK hc i pins s σ H E I hf st hg
    subst hP hw hK
    obtain ⟨⟨old, he⟩, hit, hne, hea, hai⟩ := st
    obtain ⟨hq, hlt⟩ := hg
    obtain ⟨its, rv, p, hz⟩ := I.tuple hq
    have hl := rv.length
    have D := Draws.tuple (prog := X.prog) (w := X.w) (A := X.A.in1) (I.ok.hd hc) it a hai its.toArray
    refine enum_step (J := Iet X.K a xs) (tn := fun i h => (∃ old, IsEnum h e it ((i : Nat) : Int) old) ∧ h.IsTupleIter it a i ∧ e ≠ it ∧ e ≠ a ∧ a ≠ it) (i := i) I hf D he ⟨hit, p⟩ (by simp; omega) hne (by simp [hne, hea]) (fun u hu => ?_) (fun h' u q1 q2 => ⟨⟨u, q1⟩, q2.1, hne, hea, hai⟩)
    have hx : xs[i]? = some xs[i] := by simp [hlt]
    obtain ⟨u', hu', ru⟩ := rv.get hx
    have hu2 : its[i]? = some u := by simpa using hu
    rw [hu'] at hu2
    cases hu2
    exact ⟨xs[i], ru, fun T hT => ⟨T, xs[i], rfl, hT, rfl, hx⟩⟩
  done := by
    intro X hP hw hK hc i pins s σ H E I hf st hg
    subst hP hw hK
    obtain ⟨⟨old, he⟩, hit, hne, hea, hai⟩ := st
    obtain ⟨hq, hle⟩ := hg
    obtain ⟨its, rv, p, hz⟩ := I.tuple hq
    obtain ⟨f0, f1, f2, f3, f4, f5⟩ := hf it (by simp)
    have hl := rv.length
    have D := Draws.tuple (prog := X.prog) (w := X.w) (A := X.A.in1) (I.ok.hd hc) it a hai its.toArray
    have hn : i = its.toArray.size := by simp; omega
    exact wpAny_pyNext_enum_endD D he (hn ▸ ⟨hit, p⟩) fun h' hx => ⟨rfl, I.turned (t' := s.toks) (fun b ob hb q => hx b ob hb q) f0 f1 f3 f4 f5⟩
  self := fun A i s Q E st h => let ⟨⟨_, he⟩, _⟩ := st; wpAny_pyIter_enum he h
theorem turn_es (e it : Addr) (z : Str) (t : Tok) :
    Turn P w K (.Tuple elts kk tpos) (Ies z) [e, it] e (fun i h => (∃ old, IsEnum h e it ((i : Nat) : Int) old) ∧ h.IsStrIter it (strIterType z) z t i ∧ e ≠ it) where
  mem := by simp
  obj := fun i h st b hb => by
    obtain ⟨⟨old, he⟩, ⟨o, ho, hc, hd⟩, _⟩ := st
    have e' : b = e ∨ b = it := by simpa using hb
    rcases e' with z | z
    · rw [z]; exact ⟨_, he, fun v q => nomatch q⟩
    · rw [z]; exact ⟨o, ho, fun v q => by rw [hd] at q; cases q⟩
  keep := fun i h h' st k => let ⟨⟨old, he⟩, ⟨o, ho, r⟩, hne⟩ := st; ⟨⟨old, k e (by simp) _ he⟩, ⟨o, k it (by simp) o ho, r⟩, hne⟩
  item := by
    intro X hP hw hK hc i pins s σ H E I hf st hg
    subst hP hw hK
    obtain ⟨⟨old, he⟩, hit, hne⟩ := st
    have D := Draws.text (prog := X.prog) (w := X.w) (A := X.A.in1) (I.ok.hd hc) it z t
    refine enum_step (J := Ies z) (tn := fun i h => (∃ old, IsEnum h e it ((i : Nat) : Int) old) ∧ h.IsStrIter it (strIterType z) z t i ∧ e ≠ it) (i := i) I hf D he hit hg hne (by simp [hne]) (fun u hu => ?_) (fun h' u q1 q2 => ⟨⟨u, q1⟩, q2, hne⟩)
    obtain ⟨c, u', hc', rfl⟩ := hu
    exact ⟨.str ⟨#[c]⟩, ⟨_, rfl⟩, fun T hT => ⟨T, c, rfl, hT, rfl, hc'⟩⟩
  done := by
    intro X hP hw hK hc i pins s σ H E I hf st hg
    subst hP hw hK
    obtain ⟨⟨old, he⟩, hit, hne⟩ := st
    obtain ⟨f0, f1, f2, f3, f4, f5⟩ := hf it (by simp)
    have D := Draws.text (prog := X.prog) (w := X.w) (A := X.A.in1) (I.ok.hd hc) it z t
    have hn : i = z.cps.size := hg
    subst hn
    exact wpAny_pyNext_enum_endD D he hit fun h' hx => ⟨rfl, I.turned (t' := s.toks) (fun b ob hb q => hx b ob hb q) f0 f1 f3 f4 f5⟩
  self := fun A i s Q E st h => let ⟨⟨_, he⟩, _⟩ := st; wpAny_pyIter_enum he h
end
section
variable {X : Cx} {e : Expr} {ta : TA} {p pos tpos : Pos} {elts : List Expr} {kk : Nat}
def iEt (K : PySem.W.Frag) (ta : TA) : TI := fun σ H R => ta σ H fun vs H1 => ∃ a xs, vs = [.ref a] ∧ SqT K H1 a xs ∧ R (Iet K a xs) H1
def iEs (ta : TA) : TI := fun σ H R => ta σ H fun vs H1 => ∃ z, vs = [.str z] ∧ R (Ies z) H1
/-- .. in enumerate(t), t a tuple -/
theorem pi_et (hg : Gl X "enumerate") (hm : X.mg "enumerate" = none) (ha : PA X [e] ta) (hs : starEach [e] X.env = [(false, eval e X.env)] := by rfl) : PI X (.Tuple elts kk tpos) (.Call (.Name "enumerate" p) [e] [] pos) (iEt X.K ta) := by
  refine ⟨fun pins s σ H R I h => Call_ (ld_blt I hg hm boot_enumerate (PyProof.Rows.callWith_type1 (thn (ha.run pos pins s σ H _ I h) fun us s1 ⟨vs, H1, I1, r1, q1⟩ => ?_) hs rfl))⟩
  obtain ⟨a, xs, rfl, hq, q⟩ := q1
  cases r1 with
  | cons r rr =>
    cases rr
    cases r
    obtain ⟨its, rv, p', hz⟩ := I1.tuple hq
    refine xk_enum_call (begins_tuple a its.toArray) p' fun h' he hit hk => wpAny_pyIter_enum he ?_
    have I2 : Inv X pins σ H1 { s1 with heap := h' } := I1.kept (t' := s1.toks) hk
    have hal : a < s1.heap.objs.size := p'.lt
    refine ⟨s1.heap.objs.size + 1, [s1.heap.objs.size + 1, s1.heap.objs.size], _, _, H1, rfl, I2, turn_et a (s1.heap.objs.size + 1) s1.heap.objs.size xs, ⟨⟨.none, he⟩, ⟨_, hit, rfl, rfl⟩, Nat.succ_ne_self _, Nat.ne_of_gt (Nat.lt_succ_of_lt hal), Nat.ne_of_lt hal⟩, fun b hb => ?_, q⟩
    have e' : b = s1.heap.objs.size + 1 ∨ b = s1.heap.objs.size := by simpa using hb
    have hle : s1.heap.objs.size ≤ b := by
      rcases e' with y | y
      · rw [y]; exact Nat.le_succ _
      · rw [y]; exact Nat.le_refl _
    exact I1.fpOk hle (I1.hok.fresh hle)
/-- .. in enumerate(z), z a text -/
theorem pi_es (hg : Gl X "enumerate") (hm : X.mg "enumerate" = none) (ha : PA X [e] ta) (hs : starEach [e] X.env = [(false, eval e X.env)] := by rfl) : PI X (.Tuple elts kk tpos) (.Call (.Name "enumerate" p) [e] [] pos) (iEs ta) := by
  refine ⟨fun pins s σ H R I h => Call_ (ld_blt I hg hm boot_enumerate (PyProof.Rows.callWith_type1 (thn (ha.run pos pins s σ H _ I h) fun us s1 ⟨vs, H1, I1, r1, q1⟩ => ?_) hs rfl))⟩
  obtain ⟨z, rfl, q⟩ := q1
  cases r1 with
  | cons r rr =>
    cases rr
    obtain ⟨t, rfl⟩ := r
    refine xk_enum_call (begins_text z t) trivial fun h' he hit hk => wpAny_pyIter_enum he ?_
    have I2 : Inv X pins σ H1 { s1 with heap := h' } := I1.kept (t' := s1.toks) hk
    refine ⟨s1.heap.objs.size + 1, [s1.heap.objs.size + 1, s1.heap.objs.size], _, _, H1, rfl, I2, turn_es (s1.heap.objs.size + 1) s1.heap.objs.size z t, ⟨⟨.none, he⟩, ⟨_, hit, rfl, rfl⟩, Nat.succ_ne_self _⟩, fun b hb => ?_, q⟩
    have e' : b = s1.heap.objs.size + 1 ∨ b = s1.heap.objs.size := by simpa using hb
    have hle : s1.heap.objs.size ≤ b := by
      rcases e' with y | y
      · rw [y]; exact Nat.le_succ _
      · rw [y]; exact Nat.le_refl _
    exact I1.fpOk hle (I1.hok.fresh hle)
end
/-- a loop over such an iterator: n turns -/
theorem for_ix {J : It} {n : Nat} {g : TG} {tb : TS} {D : Ends} {σ : L2.St} {H : Hp} (Pv : Nat → L2.St → Hp → Prop) (h0 : Pv 0 σ H) (hgo : ∀ i σ H, i < n → Pv i σ H → J.go i H) (hst : ∀ σ H, Pv n σ H → J.stop n H)
    (hs : ∀ i σ H x H', i < n → Pv i σ H → J.yld i H x H' → g x σ H' fun σ2 H2 => tb { D with nx := Pv (i + 1), ct := Pv (i + 1), bk := D.nx } σ2 H2) (hd : ∀ σ H, Pv n σ H → D.nx σ H) :
    ∃ W : Nat → Nat → L2.St → Hp → Prop, (∃ m, W 0 m σ H) ∧ ∀ i m σ H, W i m σ H →
      (J.stop i H ∧ D.nx σ H) ∨ (J.go i H ∧ ∃ N : L2.St → Hp → Prop, (∀ σ' H', N σ' H' → ∃ m', m' < m ∧ W (i + 1) m' σ' H') ∧ ∀ x H', J.yld i H x H' → g x σ H' fun σ2 H2 => tb { D with nx := N, ct := N, bk := D.nx } σ2 H2) := by
  refine ⟨fun i m σ H => m = n - i ∧ i ≤ n ∧ Pv i σ H, ⟨n, by simp, Nat.zero_le _, h0⟩, ?_⟩
  rintro i m σ H ⟨rfl, hi, p⟩
  by_cases hlt : i < n
  · exact .inr ⟨hgo i σ H hlt p, Pv (i + 1), fun σ' H' p' => ⟨n - (i + 1), by omega, rfl, hlt, p'⟩, fun x H' y => hs i σ H x H' hlt p y⟩
  · obtain rfl : i = n := by omega
    exact .inl ⟨hst σ H p, hd σ H p⟩
end XK
end
section
set_option Elab.async false
set_option linter.all false
set_option maxRecDepth 100000
set_option maxHeartbeats 4000000
/-! Readings, one step each. -/
namespace XK
open PySem PySem.Spec PyProof.Rows L2
section
variable {σ : L2.St} {H : Hp} {Q : VK} {i : Nat} {v x y : V} {ta tb te : TE} {K : PySem.W.Frag}
theorem n_var (h : σ[i]? = some (some v)) (q : Q v H) : tVar i σ H Q := ⟨v, h, q⟩
theorem n_c (q : Q v H) : tC v σ H Q := q
theorem n_op {r : R2} (h : ta σ H fun x H1 => tb σ H1 fun y H2 => r x y H2 Q) : tOp r ta tb σ H Q := h
theorem n_un {r : V → Hp → VK → Prop} (h : ta σ H fun x H1 => r x H1 Q) : tUn r ta σ H Q := h
theorem n_I0 {g : Int → Int → V} {a b : Int} (q : Q (g a b) H) : rI0 g (.int a) (.int b) H Q := ⟨a, b, rfl, rfl, q⟩
theorem n_U {g : Int → V} {a : Int} (q : Q (g a) H) : rU g (.int a) H Q := ⟨a, rfl, q⟩
theorem n_mod {g : Int → Int → V} {a b : Int} (h : 0 < b) (q : Q (g a b) H) : rI (fun _ j => 0 < j) g (.int a) (.int b) H Q := ⟨a, b, rfl, rfl, h, q⟩
theorem n_mul {g : Int → Int → V} {a b : Int} (h : (-(2 ^ 64) < a ∧ a < 2 ^ 64) ∨ (-(2 ^ 64) < b ∧ b < 2 ^ 64)) (q : Q (g a b) H) : rI CMul g (.int a) (.int b) H Q := ⟨a, b, rfl, rfl, h, q⟩
theorem n_div {g : Int → Int → V} {a b : Int} (h : 0 < b ∧ b < 1073741824) (q : Q (g a b) H) : rI CDiv g (.int a) (.int b) H Q := ⟨a, b, rfl, rfl, h, q⟩
theorem n_pow {g : Int → Int → V} {a b : Int} (h : 0 ≤ b ∧ b ≤ 1000000 ∧ a.natAbs < 2 ^ 64) (q : Q (g a b) H) : rI CPow g (.int a) (.int b) H Q := ⟨a, b, rfl, rfl, h, q⟩
theorem n_eq (h : scal x y = true) (q : Q (.bl (decide (x = y))) H) : rEq x y H Q := ⟨h, q⟩
theorem n_ne (h : scal x y = true) (q : Q (.bl (!decide (x = y))) H) : rNe x y H Q := ⟨h, q⟩
theorem n_nil {Q : List V → Hp → Prop} (q : Q [] H) : tNil σ H Q := q
theorem n_cons {t : TA} {Q : List V → Hp → Prop} (h : ta σ H fun x H1 => t σ H1 fun xs H2 => Q (x :: xs) H2) : tCons ta t σ H Q := h
theorem n_tup {t : TA} (h : t σ H fun xs H1 => xs.length ≤ sizeLine ∧ ∀ p, H1 p = none → Q (.ref p) (upd H1 p (.tup xs))) : tTup t σ H Q := h
theorem n_lst {t : TA} (h : t σ H fun xs H1 => xs.length ≤ sizeLine ∧ ∀ p, H1 p = none → Q (.ref p) (upd H1 p (.lst xs))) : tLst t σ H Q := h
theorem n_cb {r : List V → Hp → VK → Prop} {t : TA} (h : t σ H fun vs H1 => r vs H1 Q) : tCB r t σ H Q := h
theorem n_callS {sp : Sp} {E : L2.St → XK} {t : TA} (h : t σ H fun vs H1 => sp vs H1 Q (E σ)) : tCallS sp E t σ H Q := h
theorem n_callGK {sp : Sp} {gV : List V → List V → List V} {E : L2.St → XK} {t tk : TA} (h : t σ H fun vs H1 => tk σ H1 fun zs H2 => sp (gV vs zs) H2 Q (E σ)) : tCallGK sp gV E t tk σ H Q := h
theorem n_if {t : TT} (h : t σ H fun c H1 => if c = true then ta σ H1 Q else tb σ H1 Q) : tIf t ta tb σ H Q := h
section
variable {t u : TT} {T : Bool → Hp → Prop}
theorem n_test (h : te σ H fun x H' => ∃ k, x = .bl k ∧ T k H') : tTest te σ H T := h
theorem n_tB (h : te σ H fun x H' => ∃ k, x = .bl k ∧ T k H') : tB te σ H T := h
theorem n_bl {b : Bool} {R : Bool → Prop} (q : R b) : ∃ k, V.bl b = .bl k ∧ R k := ⟨b, rfl, q⟩
theorem n_not (h : t σ H fun c H1 => T (!c) H1) : tNot t σ H T := h
theorem n_and (h : t σ H fun c H1 => if c = true then u σ H1 T else T false H1) : tAnd t u σ H T := h
theorem n_or (h : t σ H fun c H1 => if c = true then T true H1 else u σ H1 T) : tOr t u σ H T := h
end
theorem n_andV (h : ta σ H fun x H1 => ∃ c, x = .bl c ∧ if c = true then tb σ H1 Q else Q (.bl false) H1) : tAndV ta tb σ H Q := h
theorem n_orV (h : ta σ H fun x H1 => ∃ c, x = .bl c ∧ if c = true then Q (.bl true) H1 else tb σ H1 Q) : tOrV ta tb σ H Q := h
theorem n_notV (h : ta σ H fun x H1 => ∃ c, x = .bl c ∧ Q (.bl (!c)) H1) : tNotV ta σ H Q := h
end
section
variable {D : Ends} {σ : L2.St} {H : Hp} {t1 t2 : TS} {te : TE} {tt : TT} {i : Nat}
theorem m_seq (h : t1 { D with nx := t2 D } σ H) : tSeq t1 t2 D σ H := h
theorem m_asg (h : te σ H fun v H1 => D.nx (σ.set i (some v)) H1) : tAsg te (gName i) D σ H := h
theorem m_ret (h : te σ H D.rt) : tRet te D σ H := h
theorem m_drop (h : te σ H fun _ H1 => D.nx σ H1) : tDrop te D σ H := h
theorem m_next (h : D.nx σ H) : tNext D σ H := h
theorem m_if (h : tt σ H fun c H1 => if c = true then t1 D σ H1 else t2 D σ H1) : tIfS tt t1 t2 D σ H := h
end

/-! dicts by text keys -/
theorem n_dg {H : Hp} {R : V → Prop} {p : Addr} {kvs : List (Key × V)} {k : Str} {v : V} (e : H p = some (.dK kvs)) (g : valV kvs (Sum.inr k : Key) = some v) (q : R v) : ∃ a v, V.ref p = .ref a ∧ DGet H a (.str k) (some v) ∧ R v :=
  ⟨p, v, rfl, by rw [← g]; exact DGet.k (k := (Sum.inr k : Key)) e, q⟩
theorem n_dp {H : Hp} {p : Addr} {kvs kvs' : List (Key × V)} {k : Str} {v : V} {N : Hp → Prop} (e : H p = some (.dK kvs)) (g : putK kvs (Sum.inr k : Key) v = kvs') (hl : kvs.length ≤ 1000) (q : N (upd H p (.dK kvs'))) : ∃ a H', V.ref p = .ref a ∧ DPut H a (.str k) v H' ∧ N H' :=
  ⟨p, _, rfl, DPut.k (k := (Sum.inr k : Key)) e (small1000 hl), by rw [g]; exact q⟩
theorem n_tdg {σ : L2.St} {H : Hp} {Q : VK} {td ty : TE} (h : td σ H fun x H1 => ty σ H1 fun y H2 => ∃ a v, x = .ref a ∧ DGet H2 a y (some v) ∧ Q v H2) : tDGet td ty σ H Q := h
theorem m_dput {D : Ends} {σ : L2.St} {H : Hp} {td ty tv : TE} (h : tv σ H fun v H1 => td σ H1 fun x H2 => ty σ H2 fun y H3 => ∃ a H4, x = .ref a ∧ DPut H3 a y v H4 ∧ D.nx σ H4) : sDPut td ty tv D σ H := h
/-! list + list, both to be read -/
def rCatL (K : PySem.W.Frag) : R2 := fun x y H Q => ∃ l b xs zs, x = .ref l ∧ y = .ref b ∧ SqL K H l xs ∧ SqL K H b zs ∧ xs.length + zs.length ≤ sizeLine ∧ ∀ p, H p = none → Q (.ref p) (upd H p (.lst (xs ++ zs)))
theorem op_catL {X : Cx} : OpR X (binaryOp .Add) (rCatL X.K) := by
  intro pins s σ H x y v u Q I rx ry h
  obtain ⟨l, b, xs, zs, rfl, rfl, hl, hb, hz, q⟩ := h
  cases rx
  cases ry
  obtain ⟨its, r, ⟨⟨c1, d1, dt1, s1⟩, n, ho, hc, _, hd⟩, z1⟩ := I.list hl
  obtain ⟨its2, r2, ⟨⟨c2, d2, dt2, s2⟩, n2, ho2, hc2, _, hd2⟩, z2⟩ := I.list hb
  simp only at hc hd hc2 hd2
  subst hc hd hc2 hd2
  have e1 := r.length
  have e2 := r2.length
  have e : its.toArray ++ its2.toArray = (its ++ its2).toArray := by simp
  refine concat_meets ⟨_, ho, rfl⟩ ⟨_, ho2, rfl⟩ noFill_list_add seq_list_add PySem.F.slot_list_add PySem.F.entry_list_add (PySem.F.args_list_add_2 _ _) (list_addW l b its.toArray its2.toArray n n2 d1 d2 s1 s2 (by simp; omega)) ⟨ho, ho2, ?_⟩
  rw [e]
  exact ⟨.ref _, _, I.lnew (t' := s.toks) (r.append r2) (by rw [List.length_append]; exact hz), rfl, q _ I.fresh⟩
theorem merge_new : ∀ (kvs acc : List (Key × V)), (∀ kv ∈ kvs, valV acc kv.1 = none) → (kvs.map (·.1)).Nodup → mergeK acc kvs = acc ++ kvs
  | [], acc, _, _ => (List.append_nil acc).symm
  | x :: r, acc, h, nd => by
    have h1 := h x List.mem_cons_self
    have nd2 := List.nodup_cons.mp (show (x.1 :: r.map (·.1)).Nodup from nd)
    show mergeK (putK acc x.1 x.2) r = acc ++ x :: r
    rw [putK_new x.2 h1, merge_new r (acc ++ [(x.1, x.2)]) (fun kv hk => ?_) nd2.2, List.append_assoc]
    · rfl
    · rw [valV_snoc x.1 kv.1 x.2 acc h1, if_neg (fun e : kv.1 = x.1 => nd2.1 (by rw [← e]; exact List.mem_map_of_mem hk))]
      exact h kv (List.mem_cons_of_mem _ hk)
theorem merge_nil {kvs : List (Key × V)} (nd : (kvs.map (·.1)).Nodup) : mergeK [] kvs = kvs := merge_new kvs [] (fun _ _ => rfl) nd
theorem n_ite {b : Bool} {A B : Prop} (h1 : b = true → A) (h2 : b = false → B) : if b = true then A else B := by
  cases b with
  | true => exact h1 rfl
  | false => exact h2 rfl
theorem d_true {p : Prop} [Decidable p] (h : decide p = true) : p := of_decide_eq_true h
theorem d_false {p : Prop} [Decidable p] (h : decide p = false) : ¬ p := of_decide_eq_false h
theorem at_in {α : Type} {xs : List α} {i : Int} (h0 : 0 ≤ i) (h1 : i < xs.length) : ∃ v, atI xs i = some v ∧ v ∈ xs := by
  obtain ⟨j, rfl⟩ := Int.eq_ofNat_of_zero_le h0
  have hj : j < xs.length := by omega
  exact ⟨xs[j], atI_nat (by simp [hj]), List.getElem_mem hj⟩
theorem at_ints {ns : List Int} {i : Int} (h0 : 0 ≤ i) (h1 : i < (ns.map V.int).length) : ∃ n, atI (ns.map V.int) i = some (.int n) := by
  obtain ⟨v, e, hm⟩ := at_in h0 h1
  obtain ⟨n, _, rfl⟩ := List.mem_map.mp hm
  exact ⟨n, e⟩
section
variable {D : Ends} {σ : L2.St} {H : Hp} {Q : VK} {K : PySem.W.Frag}
theorem m_par {i j : Nat} {ta : TA} (h : ta σ H fun vs H1 => ∃ v w, vs = [v, w] ∧ D.nx ((σ.set i (some v)).set j (some w)) H1) : tPar i j ta D σ H := h
theorem n_vw {v w : V} {R : V → V → Prop} (q : R v w) : ∃ v' w', [v, w] = [v', w'] ∧ R v' w' := ⟨v, w, rfl, q⟩
theorem m_for {wi : TI} {g : TG} {tb : TS} (h : wi σ H fun J H1 => ∃ W : Nat → Nat → L2.St → Hp → Prop, (∃ m, W 0 m σ H1) ∧ ∀ i m σ H, W i m σ H →
    (J.stop i H ∧ D.nx σ H) ∨ (J.go i H ∧ ∃ N : L2.St → Hp → Prop, (∀ σ' H', N σ' H' → ∃ m', m' < m ∧ W (i + 1) m' σ' H') ∧ ∀ x H', J.yld i H x H' → g x σ H' fun σ2 H2 => tb { D with nx := N, ct := N, bk := D.nx } σ2 H2)) : tFor wi g tb D σ H := h
theorem n_rng1 {ta : TA} {R : It → Hp → Prop} (h : ta σ H fun vs H1 => ∃ j : Int, vs = [.int j] ∧ -(2 ^ 62) ≤ j ∧ j < 2 ^ 62 ∧ R (Itr 0 j.toNat) H1) : iRng1 ta σ H R := h
theorem n_bm {T : String} {r : V → List V → Hp → VK → Prop} {to : TE} {t : TA} (h : to σ H fun x H1 => tyV K T x H1 ∧ t σ H1 fun xs H2 => r x xs H2 Q) : tBM K T r to t σ H Q := h
theorem n_bm0 {T : String} {r : V → List V → Hp → VK → Prop} {to : TE} (h : to σ H fun x H1 => tyV K T x H1 ∧ r x [] H1 Q) : tBM0 K T r to σ H Q := h
theorem n_app {l : Addr} {xs : List V} {y : V} (h : H l = some (.lst xs)) (z : xs.length < 1000) (q : Q .non (upd H l (.lst (xs ++ [y])))) : rAppend (.ref l) [y] H Q := ⟨l, xs, y, rfl, rfl, h, small1000 (Nat.le_of_lt z), q⟩
theorem n_lty {l : Addr} {xs : List V} {A : Prop} (h : H l = some (.lst xs)) (q : A) : tyV K "list" (.ref l) H ∧ A := ⟨Or.inl ⟨rfl, _, SqL.of h⟩, q⟩
theorem n_ixL {p : Addr} {xs : List V} {i : Int} {v : V} (h : SqL K H p xs) (e : atI xs i = some v) (q : Q v H) : rIxL K (.ref p) (.int i) H Q := ⟨p, xs, i, v, rfl, rfl, h, e, q⟩
theorem n_ixT {p : Addr} {xs : List V} {i : Int} {v : V} (h : SqT K H p xs) (e : atI xs i = some v) (q : Q v H) : rIxT K (.ref p) (.int i) H Q := ⟨p, xs, i, v, rfl, rfl, h, e, q⟩
end
theorem m_gn {i : Nat} {v : V} {σ : L2.St} {H : Hp} {R : L2.St → Hp → Prop} (h : R (σ.set i (some v)) H) : gName i v σ H R := h
section
variable {D : Ends} {σ : L2.St} {H : Hp} {Q : VK} {K : PySem.W.Frag}
theorem m_asgG {te : TE} {g : TG} (h : te σ H fun x H1 => g x σ H1 D.nx) : tAsg te g D σ H := h
theorem n_gnil {R : L2.St → Hp → Prop} (q : R σ H) : gNil [] σ H R := ⟨rfl, q⟩
theorem n_gcons {t : TG} {u : TGs} {v : V} {r : List V} {R : L2.St → Hp → Prop} (h : t v σ H fun σ' H' => u r σ' H' R) : gCons t u (v :: r) σ H R := ⟨v, r, rfl, h⟩
theorem n_gtup {n : Nat} {t : TGs} {a : Addr} {xs : List V} {R : L2.St → Hp → Prop} (h : SqT K H a xs) (l : xs.length = n) (q : t xs σ H R) : gTup K n t (.ref a) σ H R := ⟨a, xs, rfl, h, l, q⟩
theorem n_sl {r : V → Option Int → Option Int → Hp → VK → Prop} {te : TE} {tl th : TO} (h : te σ H fun x H1 => tl σ H1 fun l H2 => th σ H2 fun u H3 => r x l u H3 Q) : L2.tSl r te tl th σ H Q := h
theorem n_nop {R : Option Int → Hp → Prop} (q : R none H) : tNoPart σ H R := q
theorem n_part {t : TE} {R : Option Int → Hp → Prop} (h : t σ H fun x H1 => ∃ i, x = .int i ∧ R (some i) H1) : tPart t σ H R := h
theorem n_int {i : Int} {R : Int → Prop} (q : R i) : ∃ j, V.int i = .int j ∧ R j := ⟨i, rfl, q⟩
theorem n_slS {z : Str} {l u : Option Int} (hz : z.length ≤ 100000) (q : Q (.str (cutS z l u)) H) : rSlS (.str z) l u H Q := ⟨z, rfl, Nat.le_trans hz (by decide), q⟩
end
theorem cutS_mem {z : Str} {l u : Option Int} {c : Nat} (h : c ∈ (cutS z l u).cps.toList) : c ∈ z.cps.toList := by
  have h1 : c ∈ (z.cps.toList.drop (HT.sIx z.length 0 l)).take (HT.sIx z.length z.length u - HT.sIx z.length 0 l) := by simpa [cutS] using h
  exact List.mem_of_mem_drop (List.mem_of_mem_take h1)
/-- cut at one place -/
theorem cutS_len2 {z : Str} {k : Int} (h0 : 0 ≤ k) (h1 : k ≤ z.length) : (cutS z none (some k)).length + (cutS z (some k) none).length = z.length := by
  obtain ⟨j, rfl⟩ := Int.eq_ofNat_of_zero_le h0
  have e1 : HT.sIx z.length z.length (some (j : Int)) = min j z.length := HT.sIx_nat _ _ _
  have e2 : HT.sIx z.length 0 (some (j : Int)) = min j z.length := HT.sIx_nat _ _ _
  show (((z.cps.toList.drop 0).take (HT.sIx z.length z.length (some (j : Int)) - 0)).toArray).size + (((z.cps.toList.drop (HT.sIx z.length 0 (some (j : Int)))).take (z.length - HT.sIx z.length 0 (some (j : Int)))).toArray).size = z.cps.size
  rw [e1, e2, List.size_toArray, List.size_toArray, List.length_take, List.length_take, List.length_drop, List.length_drop, Array.length_toList]
  show min (min j z.cps.size - 0) (z.cps.size - 0) + min (z.cps.size - min j z.cps.size) (z.cps.size - min j z.cps.size) = z.cps.size
  omega
end XK
end
section
set_option Elab.async false
set_option linter.all false
set_option maxRecDepth 100000
set_option maxHeartbeats 4000000
/-! More by values: a text times a number. -/
namespace XK
open PySem PySem.Spec PyProof.Rows L2
def repS (k : Nat) (a : Str) : Str := ⟨((List.replicate k a.cps.toList).flatten).toArray⟩
theorem rep_fold (c : Array Nat) : ∀ (n : Nat) (acc : Array Nat), (List.replicate n c).foldl (· ++ ·) acc = acc ++ ((List.replicate n c.toList).flatten).toArray
  | 0, acc => by simp
  | n + 1, acc => by
    rw [List.replicate_succ, List.foldl_cons, rep_fold c n, List.replicate_succ, List.flatten_cons]
    rw [Array.append_assoc]
    congr 1
    apply Array.ext'
    simp
theorem repS_len (k : Nat) (a : Str) : (repS k a).length = k * a.length := by
  show (((List.replicate k a.cps.toList).flatten).toArray).size = k * a.cps.size
  rw [List.size_toArray, List.length_flatten, List.map_replicate, List.sum_replicate_nat, Array.length_toList]
def rMulS : R2 := fun x y H Q => ∃ (a : Str) (k : Int), x = .str a ∧ y = .int k ∧ 0 ≤ k ∧ k ≤ 1000 ∧ a.length ≤ 1000 ∧ Q (.str (repS k.toNat a)) H
theorem op_mulS {X : Cx} : OpR X (binaryOp .Mult) rMulS := by
  intro pins s σ H x y v u Q I rx ry h
  obtain ⟨a, k, rfl, rfl, k0, k1, ha, q⟩ := h
  obtain ⟨t, rfl⟩ := rx
  obtain ⟨t', rfl⟩ := ry
  have hm : a.length * k.toNat ≤ 1000 * 1000 := Nat.mul_le_mul ha (by omega)
  refine PySem.P.mul_str (by rw [decide_eq_false (by omega), decide_eq_false (by omega)]; rfl) (fun h1 _ => ?_) (fun h1 _ => ?_) ?_
  · have e : (1000 : Int) ≤ (2 ^ 63 - 1) / k := Int.le_ediv_of_mul_le (by omega) (by omega)
    omega
  · exact decide_eq_false (by rw [sizeLine_eq]; omega)
  · by_cases h1 : k < 1
    · rw [if_pos h1]
      have e : repS k.toNat a = Str.empty := by
        rw [show k.toNat = 0 by omega]
        rfl
      rw [e] at q
      exact ⟨by decide, ⟨.str _, H, I.tok _, ⟨_, rfl⟩, q⟩⟩
    · rw [if_neg h1]
      by_cases h2 : (k == 1 || a.length == 0) = true
      · rw [if_pos h2]
        have e : repS k.toNat a = a := by
          rcases Bool.or_eq_true_iff.mp h2 with h3 | h3
          · rw [show k.toNat = 1 by have := eq_of_beq h3; omega]
            show (⟨((List.replicate 1 a.cps.toList).flatten).toArray⟩ : Str) = a
            simp
          · have hz : a.cps.size = 0 := eq_of_beq h3
            have ez : a.cps = #[] := Array.size_eq_zero_iff.mp hz
            obtain ⟨cs⟩ := a
            dsimp only at ez
            subst ez
            show (⟨((List.replicate k.toNat []).flatten).toArray⟩ : Str) = _
            simp
        rw [e] at q
        exact ⟨.str a, H, I, ⟨_, rfl⟩, q⟩
      · rw [if_neg h2, rep_fold]
        have e : (⟨#[] ++ ((List.replicate k.toNat a.cps.toList).flatten).toArray⟩ : Str) = repS k.toNat a := by
          unfold repS
          simp
        rw [e]
        refine ⟨?_, ⟨.str _, H, I.tok _, ⟨_, rfl⟩, q⟩⟩
        rw [repS_len, Nat.mul_comm, sizeLine_eq]
        omega
end XK
end
section
set_option Elab.async false
set_option linter.all false
set_option maxRecDepth 100000
set_option maxHeartbeats 4000000
/-! Data in the heap: kept, looked at, its type. -/
namespace XK
open PySem PySem.Spec PyProof.Rows L2
theorem rd_same {H H' : Hp} {a : Addr} {u : HO} (e : Same H H') (h : Rd H a u) : Rd H' a u := by
  rcases h with h | ⟨o, h⟩
  · exact Or.inl (e a _ h)
  · exact Or.inr ⟨o, e a _ h⟩
theorem sqt_same {K : PySem.W.Frag} {H H' : Hp} {a : Addr} {xs : List V} (e : Same H H') (h : SqT K H a xs) : SqT K H' a xs := by
  rcases h with h | h
  · exact Or.inl (rd_same e h)
  · exact Or.inr h
theorem same_new {H : Hp} {p : Addr} {o : HO} (h : H p = none) : Same H (upd H p o) := fun b u e => by rw [upd_ne (ne_of_none e h)]; exact e
/-- a change at p, of what was not there -/
theorem same_at {H H' : Hp} {p : Addr} {o : HO} (e : Same H H') (h : H p = none) : Same H (upd H' p o) := fun b u q => by rw [upd_ne (ne_of_none q h)]; exact e b u q
mutual
theorem Dz.same {K : PySem.W.Frag} {H H' : Hp} (e : Same H H') : ∀ {v : V} {d : PyData}, Dz K H v d → Dz K H' v d
  | _, _, .non => .non
  | _, _, .bl b => .bl b
  | _, _, .int i => .int i
  | _, _, .str x => .str x
  | _, _, .lst h a => .lst (Same.seq e h) (DzA.same e a)
  | _, _, .tup h a => .tup (sqt_same e h) (DzA.same e a)
  | _, _, .dic h => .dic (e _ _ h)
theorem DzA.same {K : PySem.W.Frag} {H H' : Hp} (e : Same H H') : ∀ {vs : List V} {ds : List PyData}, DzA K H vs ds → DzA K H' vs ds
  | _, _, .nil => .nil
  | _, _, .cons a b => .cons (Dz.same e a) (DzA.same e b)
end
theorem DzA.len {K : PySem.W.Frag} {H : Hp} : ∀ {vs : List V} {ds : List PyData}, DzA K H vs ds → vs.length = ds.length
  | _, _, .nil => rfl
  | _, _, .cons _ b => by rw [List.length_cons, List.length_cons, DzA.len b]
theorem DzA.get {K : PySem.W.Frag} {H : Hp} : ∀ {vs : List V} {ds : List PyData} {i : Nat} {d : PyData}, DzA K H vs ds → ds[i]? = some d → ∃ v, vs[i]? = some v ∧ Dz K H v d
  | _, _, _, _, .nil, e => by simp at e
  | _, _, 0, _, .cons a _, e => by
    simp at e
    subst e
    exact ⟨_, rfl, a⟩
  | _, _, i + 1, _, .cons _ b, e => by
    obtain ⟨v, h1, h2⟩ := DzA.get b (i := i) (by simpa using e)
    exact ⟨v, by simpa using h1, h2⟩
theorem DzA.at {K : PySem.W.Frag} {H : Hp} {vs : List V} {ds : List PyData} {i : Nat} {v : V} (h : DzA K H vs ds) (e : vs[i]? = some v) : ∃ d, ds[i]? = some d ∧ Dz K H v d := by
  have hi : i < ds.length := by rw [← DzA.len h]; exact (List.getElem?_eq_some_iff.mp e).1
  obtain ⟨v', h1, h2⟩ := DzA.get h (i := i) (d := ds[i]) (by simp [hi])
  rw [h1] at e
  cases e
  exact ⟨_, by simp [hi], h2⟩
theorem DzA.snoc {K : PySem.W.Frag} {H : Hp} : ∀ {vs : List V} {ds : List PyData} {v : V} {d : PyData}, DzA K H vs ds → Dz K H v d → DzA K H (vs ++ [v]) (ds ++ [d])
  | _, _, _, _, .nil, h => .cons h .nil
  | _, _, _, _, .cons a b, h => .cons a (DzA.snoc b h)
theorem DzA.append {K : PySem.W.Frag} {H : Hp} : ∀ {vs ws : List V} {ds es : List PyData}, DzA K H vs ds → DzA K H ws es → DzA K H (vs ++ ws) (ds ++ es)
  | _, _, _, _, .nil, h => h
  | _, _, _, _, .cons a b, h => .cons a (DzA.append b h)
/-- a datum's type -/
def tyD : PyData → String
  | .none => "NoneType"
  | .bool _ => "bool"
  | .int _ => "int"
  | .str _ => "str"
  | .list _ => "list"
  | .tuple _ => "tuple"
  | .dict _ => "dict"
theorem Dz.ty {K : PySem.W.Frag} {H : Hp} {v : V} {d : PyData} (h : Dz K H v d) : TyX K H v (.type (tyD d)) := by
  cases h with
  | non => exact .base .non
  | bl b => exact .base (.bl b)
  | int i => exact .base (.int i)
  | str x => exact .base (.str x)
  | lst h _ =>
    rcases h with (h | ⟨o, h⟩) | ⟨o, its, n, hk, hc, _⟩
    · exact .base (.lst h)
    · exact .base (.frz h)
    · exact .kList hk hc
  | tup h _ =>
    rcases h with (h | ⟨o, h⟩) | ⟨o, its, n, hk, hc, _⟩
    · exact .base (.tup h)
    · exact .fTuple h
    · exact .kTuple hk hc
  | dic h => exact .base (.dK h)
/-- isinstance(x, T), x data -/
theorem n_isi {K : PySem.W.Frag} {H : Hp} {Q : VK} {v : V} {d : PyData} {T : String} {b : Bool} (h : Dz K H v d) (k : kitB (tyD d) T = some b) (q : Q (.bl b) H) : rIsi K [v, .ty T] H Q :=
  ⟨v, .ty T, _, _, b, rfl, .ty T, h.ty, kit_ty k, q⟩
theorem is_int (d : PyData) : kitB (tyD d) "int" = some (match d with | .int _ => true | .bool _ => true | _ => false) := by cases d <;> (simp only [tyD]; decide +kernel)
theorem is_bool (d : PyData) : kitB (tyD d) "bool" = some (match d with | .bool _ => true | _ => false) := by cases d <;> (simp only [tyD]; decide +kernel)
theorem is_str (d : PyData) : kitB (tyD d) "str" = some (match d with | .str _ => true | _ => false) := by cases d <;> (simp only [tyD]; decide +kernel)
theorem is_tuple (d : PyData) : kitB (tyD d) "tuple" = some (match d with | .tuple _ => true | _ => false) := by cases d <;> (simp only [tyD]; decide +kernel)
section
variable {D : Ends} {σ : L2.St} {H : Hp} {Q : VK} {K : PySem.W.Frag}
theorem n_chain {r r' : R2} {ta tb tc : TE} (h : ta σ H fun x H1 => tb σ H1 fun y H2 => r x y H2 fun z H3 => ∃ k, z = .bl k ∧ (if k = true then tc σ H3 fun w' H4 => r' y w' H4 Q else Q (.bl false) H3)) : tChain r r' ta tb tc σ H Q := h
theorem m_rz {C : Addr} {f : Str} {W : WX} {te : TE} (h : te σ H fun v H1 => ∀ d, H1 d = none → W (.ref C) (some d) σ (upd H1 d (.xd [(f, v)]))) : tRz C f W te D σ H := h
theorem n_iet {ta : TA} {R : It → Hp → Prop} (h : ta σ H fun vs H1 => ∃ a xs, vs = [.ref a] ∧ SqT K H1 a xs ∧ R (Iet K a xs) H1) : iEt K ta σ H R := h
theorem n_ies {ta : TA} {R : It → Hp → Prop} (h : ta σ H fun vs H1 => ∃ z, vs = [.str z] ∧ R (Ies z) H1) : iEs ta σ H R := h
theorem n_itup {tl : TE} {R : It → Hp → Prop} (h : tl σ H fun x H1 => ∃ a, x = .ref a ∧ (∃ xs, SqT K H1 a xs) ∧ R (Itt K a) H1) : iTup K tl σ H R := h
theorem n_ilist {tl : TE} {R : It → Hp → Prop} (h : tl σ H fun x H1 => ∃ a, x = .ref a ∧ (∃ xs, SqL K H1 a xs) ∧ R (Itl K a) H1) : iList K tl σ H R := h
theorem n_istr {te : TE} {R : It → Hp → Prop} (h : te σ H fun v H1 => ∃ x, v = .str x ∧ R (Its x) H1) : iStr te σ H R := h
theorem n_m1 {r : V → List V → Hp → VK → Prop} {to te : TE} (h : to σ H fun x H1 => (∃ a, x = .str a) ∧ te σ H1 fun y H2 => r x [y] H2 Q) : tM1 r to te σ H Q := h
theorem n_strA {z : Str} {A : Prop} (q : A) : (∃ a, V.str z = .str a) ∧ A := ⟨⟨z, rfl⟩, q⟩
theorem n_lc {wi : TI} {g : TG} {tt : TT} {te : TE} {vs : List Nat} (h : wi σ H fun J H1 => ∀ D, H1 D = none → ∃ W : Nat → Nat → Hp → Prop, (∃ m, W 0 m (upd H1 D (.lst []))) ∧ ∀ i m H, W i m H →
  (J.stop i H ∧ Q (.ref D) H) ∨ (J.go i H ∧ ∃ Nx : Hp → Prop, (∀ H', Nx H' → ∃ m', m' < m ∧ W (i + 1) m' H') ∧ ∀ x H', J.yld i H x H' → g x (wipe σ vs) H' fun σ2 H2 => wipe σ2 vs = wipe σ vs ∧ tt σ2 H2 fun b H3 =>
    if b = true then te σ2 H3 fun y H4 => ∃ acc, H4 D = some (.lst acc) ∧ acc.length < sizeLine ∧ Nx (upd H4 D (.lst (acc ++ [y]))) else Nx H3)) : tLc wi g tt te vs σ H Q := h
end
theorem n_xo {K : PySem.W.Frag} {n : Str} {te : TE} {σ : L2.St} {H : Hp} {Q : VK} (h : te σ H fun x H1 => ∃ (a C d : Addr) (fs : List (Str × V)) (v : V), x = .ref a ∧ H1 a = some (Xo a (.ref C) (some d)) ∧ H1 d = some (.xd fs) ∧ XfC K C ∧ PySem.W.findIn K (.ref C) n = some none ∧ fs.lookup n = some v ∧ Q v H1) : tXo K n te σ H Q := h
theorem n_yes {σ : L2.St} {H : Hp} {T : Bool → Hp → Prop} (q : T true H) : tYes σ H T := q
section
variable {X : Cx} {x : Str} {pos : Pos}
theorem pe_ty {T : String} (hg : Gl X x) (hm : X.mg x = none) (hv : bootBuiltins x = some (.type T)) (hn : x ≠ "__name__" := by decide) (hd : (x == ("__debug__" : Str)) = false := by decide) : PE X (.Name x pos) (tC (.ty T)) := pe_bltn hg hm hv rfl hn hd
theorem pe_gk1 {v : V} (hg : Gl X x) (h : ∃ u, X.mg x = some u ∧ RelV v u) (hd : (x == ("__debug__" : Str)) = false := by decide) : PE X (.Name x pos) (tC v) := by
  obtain ⟨u, hm, r⟩ := h
  exact pe_glob hg hm r hd
end
end XK
end
section
set_option Elab.async false
set_option linter.all false
set_option maxRecDepth 100000
set_option maxHeartbeats 4000000
/-! sum of a tuple, list of a text. -/
namespace XK
open PySem PySem.Spec PyProof.Rows L2
section
variable {X : Cx}
def rSumT (K : PySem.W.Frag) : List V → Hp → VK → Prop := fun vs H Q => ∃ (a : Addr) (ns : List Int), vs = [V.ref a] ∧ SqT K H a (ns.map V.int) ∧ Q (.int ns.sum) H
theorem call_sumT (hc : X.calm = true) : CallR X (.builtin "sum") (rSumT X.K) := by
  intro pins s σ H vs us Q I r h
  obtain ⟨a, ns, rfl, hs, q⟩ := h
  obtain ⟨its, rv, hl, _⟩ := I.tuple hs
  rw [Vals.ref1 r]
  have hi := rv.ints
  obtain ⟨xs, e⟩ := hi.allInts.items
  have hn : numsOf (intItems xs).toList = ns := by rw [← e]; exact hi.numsOf
  rw [nums_intItems] at hn
  rw [e] at hl
  refine PySem.W.ktm_sumG (I.ok.hd hc) hl fun h' tk t' hk => ?_
  rw [preSum_eq, List.take_of_length_le (by simp), hn]
  exact ⟨.int _, H, I.kept hk, ⟨_, rfl⟩, q⟩
def rListS : List V → Hp → VK → Prop := fun xs H Q => ∃ z : Str, xs = [.str z] ∧ z.length ≤ sizeLine ∧ ∀ l, H l = none → Q (.ref l) (upd H l (.lst (z.cps.toList.map fun c => .str ⟨#[c]⟩)))
theorem call_listS (hc : X.calm = true) : CallR X (.type "list") rListS := by
  intro pins s σ H xs us Q I r h
  obtain ⟨z, rfl, hz, q⟩ := h
  obtain ⟨u, rfl, t, rfl⟩ := vals1 r
  refine call_list_str (I.ok.hd hc) z t (hn := hz) fun h' tk acc' c' kp e it => ?_
  refine ⟨.ref s.heap.objs.size, _, I.laid (t' := tk) kp (Nat.le_refl _) (show ObjOk X.prog X.w _ h' _ (.lst (z.cps.toList.map fun c => V.str ⟨#[c]⟩)) from ⟨by rw [List.length_map, Array.length_toList]; exact hz, acc'.toList, c', ?_, by simpa using e⟩), rfl, q _ (I.hok.fresh (Nat.le_refl _))⟩
  refine vals_of_at (by rw [List.length_map, Array.length_toList, Array.length_toList]; exact it.1.symm) fun j x u hx hu => ?_
  obtain ⟨c, tk', hc', rfl⟩ := it.2 j u (by rw [← Array.getElem?_toList]; exact hu)
  rw [List.getElem?_map, Array.getElem?_toList, hc'] at hx
  cases hx
  exact ⟨tk', rfl⟩
def rStrBN : List V → Hp → VK → Prop := fun xs H Q => (∃ b : Bool, xs = [.bl b] ∧ Q (.str (if b then "True" else "False")) H) ∨ (xs = [.non] ∧ Q (.str "None") H)
theorem call_strBN : CallR X (.type "str") rStrBN := by
  intro pins s σ H xs us Q I r h
  rcases h with ⟨b, rfl, q⟩ | ⟨rfl, q⟩
  · obtain ⟨u, rfl, rx⟩ := vals1 r
    cases rx
    exact PySem.P.str_of_bool ⟨.str _, H, I.tok _, ⟨_, rfl⟩, q⟩
  · obtain ⟨u, rfl, rx⟩ := vals1 r
    cases rx
    exact PySem.P.str_of_none ⟨.str _, H, I.tok _, ⟨_, rfl⟩, q⟩
end
end XK
end
section
set_option Elab.async false
set_option linter.all false
set_option maxRecDepth 100000
set_option maxHeartbeats 4000000
/-! The end: a law whose def promises under Calm. -/
namespace XK
open PySem PySem.Spec PyProof.Rows L2
theorem callerCalm {k : Nat} (h : Room k callerA) : Calm k callerA := ⟨h, rfl⟩
/-- nothing is known but the script -/
def seenAt (a : Addr) (w : Bool) (its : List Value) (zs : List V) : Hp := fun c => if c = a ∧ w = true then some (.frz { cls := .type "list", data := .seq its.toArray } (.lst zs)) else none
theorem seen_some {a c : Addr} {w : Bool} {its : List Value} {zs : List V} {u : HO} (h : seenAt a w its zs c = some u) : c = a ∧ w = true ∧ u = .frz { cls := .type "list", data := .seq its.toArray } (.lst zs) := by
  unfold seenAt at h
  split at h
  · rename_i g
    cases h
    exact ⟨g.1, g.2, rfl⟩
  · cases h
section
variable {P : Program} {wd : World} {K : PySem.W.Frag} {mg mb : Str → Option Value} {k : Nat} {fa a : Addr} {fd : FuncData} {x : Str} {sp : Sp} {s1 : Shared} {its : List Value} {zs : List Int}
theorem law_g (inK : K.In s1.heap) (n1 : s1.heap.Ns mainGlobals mg) (n2 : s1.heap.Ns builtinsNs mb) (bb : ∀ y : Str, y ≠ "__name__" → mb y = bootBuiltins y) (nl : s1.heap.NoLimit) (ng : s1.gens = #[])
    (at1 : s1.heap.get? a = some { cls := .type "list", data := .seq its.toArray }) (hin : IntsAre its zs) (few : zs.length ≤ sizeLine) (room : Room k callerA)
    (F : ∀ base : Heap, K.In base → base.Ns mainGlobals mg → FnG P wd K mg base k fa fd [x] sp) (bd : ∀ (s : Shared) (u : Value), BindsTo s fd ⟨[u], []⟩ [(x, u)])
    (ask : ∀ H : Hp, SqL K H a (zs.map V.int) → sp [.ref a] H (fun v _ => v = .bl true) E0) :
    codeAny (model P wd) callerA (.call (.ref fa) ⟨[.ref a], []⟩) (fun r s2 => r = .ok (.ret (.bool true)) ∧ OldK s1.heap s2.heap ∧ s2.os = s1.os ∧ AllBare s2.gens) s1 := by
  have rel := vals_ints hin
  have same := hin.length
  obtain ⟨b, hb1, hb2⟩ : ∃ b : Bool, (b = true → K.lookup a = none) ∧ (b = false → ∃ o, K.lookup a = some o) := by
    cases q : K.lookup a with
    | none => exact ⟨true, fun _ => rfl, fun z => (by cases z)⟩
    | some o => exact ⟨false, fun z => (by cases z), fun _ => ⟨o, rfl⟩⟩
  have hidden : ∀ {c : Addr} {o : Obj}, s1.heap.get? c = some o → seenAt a b its (zs.map V.int) c = none → (hidT s1.heap (seenAt a b its (zs.map V.int))).get? c = some o := fun h1 h2 => hidT_get h1 h2
  have dicts : ∀ {c : Addr} {o : Obj} {es : Array DictEntry} {n : Nat}, s1.heap.get? c = some o → o.data = .dict es n → seenAt a b its (zs.map V.int) c = none := fun {c o es n} h1 h2 => by
    cases q : seenAt a b its (zs.map V.int) c with
    | none => rfl
    | some u =>
      obtain ⟨rfl, _, _⟩ := seen_some q
      rw [at1] at h1
      cases h1
      cases h2
  have keepNs : ∀ {c : Addr} {m : Str → Option Value}, s1.heap.Ns c m → (hidT s1.heap (seenAt a b its (zs.map V.int))).Ns c m := fun ⟨o, es, ep, h1, h2, h3⟩ => ⟨o, es, ep, hidden h1 (dicts h1 h2), h2, h3⟩
  have inB : K.In (hidT s1.heap (seenAt a b its (zs.map V.int))) := fun c o h => hidden (inK c o h) (by
    cases q : seenAt a b its (zs.map V.int) c with
    | none => rfl
    | some u =>
      obtain ⟨rfl, hw, _⟩ := seen_some q
      rw [hb1 hw] at h
      cases h)
  have okH : HOk P wd (seenAt a b its (zs.map V.int)) s1.heap := fun c u h => by
    obtain ⟨rfl, _, rfl⟩ := seen_some h
    exact ⟨at1, by rw [List.length_map]; exact few, its, _, rel, at1⟩
  have sq : SqL K (seenAt a b its (zs.map V.int)) a (zs.map V.int) := by
    cases b with
    | true => exact .inl (.inr ⟨_, if_pos ⟨rfl, rfl⟩⟩)
    | false =>
      obtain ⟨o, ho⟩ := hb2 rfl
      have h2 := inK a o ho
      rw [at1] at h2
      cases h2
      exact .inr ⟨_, its.toArray, _, ho, rfl, rfl, rfl, by rw [List.size_toArray, same]; exact few, by simpa using rel⟩
  have md : Mod K mg (hidT s1.heap (seenAt a b its (zs.map V.int))) := ⟨inB, keepNs n1, ⟨mb, keepNs n2, bb⟩, let ⟨mc, h1, h2⟩ := nl; ⟨mc, keepNs h1, h2⟩⟩
  have env : Env0 P wd K mg (hidT s1.heap (seenAt a b its (zs.map V.int))) callerA [] s1 (seenAt a b its (zs.map V.int)) :=
    ⟨rfl, md, fun c o h => of_hidT h, Nat.le_of_eq (hidT_size _ _), trivial, fun c hc => absurd (show c ∈ ([] : List Addr) from hc) (by simp), okH, .of_eq ng⟩
  refine codeAny_mono ((F _ inB (keepNs n1)).go callerA [] s1 _ ⟨[.ref a], []⟩ [.ref a] [.ref a] _ _ (callerCalm room) env (bd s1 (.ref a)) (.cons rfl .nil) (ask _ sq)) fun r s2 hq => ?_
  match r, hq with
  | .error e, hq =>
    obtain ⟨_, _, _, _, _, _, _, _, _, _, _, _, z⟩ := hq
    exact z.elim
  | .ok (.ret u), ⟨v, H2, os, bare, un, ok2, rv, q⟩ =>
    have q1 : v = .bl true := q
    subst q1
    obtain rfl : u = Value.bool true := rv
    refine ⟨rfl, OldK.of_keep fun c o h => ?_, os, bare⟩
    cases q2 : seenAt a b its (zs.map V.int) c with
    | none => exact un.keep c o h q2 (fun z => absurd (show c ∈ ([] : List Addr) from z) (by simp)) (by simp)
    | some u2 =>
      obtain ⟨rfl, _, rfl⟩ := seen_some q2
      obtain ⟨e1, _⟩ := ok2 c _ (un.frzs c _ _ q2)
      rw [at1] at h
      cases h
      exact e1
end
/-- what k_head leaves, from such a law -/
theorem walk_g {l : PySem.W.OpenLaw} {n k : Nat} {q : Program} {loose : List Str} {XP : (Str → Option Value) → Heap → Prop} {YP : World → Heap → Prop} {d : DefRec} {Kf : Params → PySem.W.Frag} {sp : PySem.W.Frag → Sp} {x : Str}
    (h1 : l.most = some n) (h2 : n ≤ sizeLine) (h3 : d.params.defaults = []) (h4 : Room k callerA) (hY : ∀ (wd : World) (h : Heap), YP wd h → (Kf wd.params).In h)
    (F : ∀ (wd : World) (mg : Str → Option Value) (fa : Addr) (h : Heap), (Kf wd.params).In h → h.Ns mainGlobals mg → mg d.name = some (.ref fa) →
      ∃ fd : FuncData, (∀ (s : Shared) (u : Value), BindsTo s fd ⟨[u], []⟩ [(x, u)]) ∧ ∀ base : Heap, (Kf wd.params).In base → base.Ns mainGlobals mg → FnG l.prog wd (Kf wd.params) mg base k fa fd [x] (sp (Kf wd.params)))
    (ask : ∀ (K : PySem.W.Frag) (H : Hp) (a : Addr) (zs : List Int), zs.length ≤ n → SqL K H a (zs.map V.int) → sp K [.ref a] H (fun v _ => v = .bl true) E0) :
    PySem.W.WalkO q loose XP YP l.row.toRowW d [] (fun f vs => PySem.call f vs) := by
  refine Att.attach_call h1 h3 fun wd s0 s1 mg mb fa o pm cd doc a its zs G Y ho hd hcd hmg hobj hints hlen hg => ?_
  obtain ⟨fd, hb, hF⟩ := F wd mg fa _ (hY wd _ Y) G.T.g hmg
  exact law_g (hY wd _ Y) G.T.g G.T.b G.T.builtins G.T.nolimit hg hobj hints (Nat.le_trans hlen h2) h4 hF hb fun H hS => ask _ H a zs hlen hS
end XK
end
section
set_option Elab.async false
set_option linter.all false
set_option maxRecDepth 100000
set_option maxHeartbeats 4000000
/-! What the top has written, in packs. -/
namespace XK
open PySem PySem.Spec PyProof.Rows L2
/-- a def of the top -/
def Dn (K : PySem.W.Frag) (x : Str) (st : Stmt) : Prop := ∃ (f : Addr) (fd : FuncData), PySem.W.nsIn K mainGlobals x = some (some (.ref f)) ∧ Fun K x x st f fd
section
variable {K : PySem.W.Frag} {x q : Str} {st : Stmt}
theorem Dn.mk {f : Addr} {oc : Value} {od an : Option Addr} {osl : Array (Option Value)} {kV doc pm cdv ct : Value} (a : PySem.W.nsIn K mainGlobals x = some (some (.ref f)))
    (l : K.lookup f = some ⟨oc, od, .func (PySem.W.fnOf x x (defArgs st) (defBody st) (defScope st) .none kV doc pm an cdv ct), osl⟩) (c : PySem.W.codeIn K cdv x = true) (k : PySem.W.keepIn K (.ref f) = true) : Dn K x st := ⟨_, _, a, fun_mk l c k⟩
/-- an own error class of one field, its __init__ st -/
def En (K : PySem.W.Frag) (x q f : Str) (st : Stmt) (C : Addr) : Prop := ∃ (fI : Addr) (fd : FuncData), (∀ mg : Str → Option Value, mg x = some (.ref C) → Ec K mg x C fI f) ∧ Fun K "__init__" q st fI fd
theorem refs_own {c1 : Addr} : PySem.HandSPX.refsVE [.ref c1, .type "ValueError", .type "Exception", .type "BaseException", .type "object"] = true := rfl
theorem En.mk {f : Str} {C c1 fI : Addr} {nm qn : Str} {N : Addr} {bs : List Value} {sn : List Str} {sub : List Value} {ab : Bool} {col : Option Bool} {dd : Option Addr} {m0 m1 m2 m3 m5 : Option Value}
    {oc : Value} {od an : Option Addr} {osl : Array (Option Value)} {kV doc pm cdv ct : Value}
    (xL : K.lookup C = some (excClassObj nm qn C N bs [.ref c1, .type "ValueError", .type "Exception", .type "BaseException", .type "object"] true sn sub ab col dd m0 m1 m2 m3 m5 "ValueError.__new__"))
    (sa : PySem.W.findIn K (.ref C) "__setattr__" = some (some (.builtin "object.__setattr__"))) (exC : PySem.W.subIn K (.ref C) (.type "BaseException") = some true) (tyC : PySem.W.typeIn K (.ref C) = some (.type "type")) (kC : PySem.W.keepIn K (.ref C) = true)
    (iC : PySem.W.findIn K (.ref C) "__init__" = some (some (.ref fI))) (tI : PySem.W.typeIn K (.ref fI) = some (.type "function")) (nf : PySem.W.findIn K (.ref C) f = some none)
    (ga : PySem.W.findIn K (.ref C) "__getattribute__" = some (some (.builtin "BaseException.__getattribute__"))) (gg : PySem.W.findIn K (.ref C) "__getattr__" = some none) (hd : PySem.W.hasDictIn K C = true)
    (cl : PySem.W.findIn K (.ref C) "__class__" = some (some (.builtin "object.__class__"))) (sg : PySem.W.specialIn K (.builtin "object.__class__") "__get__" = some (some (.builtin "getset_descriptor.__get__"))) (tk : PySem.W.takesIn K (.builtin "object.__class__") = some true) (mo : PySem.W.mroIn K C (.type "object") = some true)
    (l : K.lookup fI = some ⟨oc, od, .func (PySem.W.fnOf "__init__" q (defArgs st) (defBody st) (defScope st) .none kV doc pm an cdv ct), osl⟩) (c : PySem.W.codeIn K cdv q = true) (k : PySem.W.keepIn K (.ref fI) = true) : En K x q f st C :=
  ⟨_, _, fun mg g => ⟨g, ⟨⟨nm, qn, N, bs, _, sn, sub, ab, col, dd, m0, m1, m2, m3, m5, xL, refs_own⟩, sa, exC, tyC, kC⟩, iC, tI, nf, ⟨ga, gg, exC, hd⟩, ⟨ga, gg, exC, hd, cl, sg, tk, mo⟩⟩, fun_mk l c k⟩
/-- a class as an except clause and isinstance see it -/
structure Cl (K : PySem.W.Frag) (c : Addr) : Prop where
  ex : PySem.W.subIn K (.ref c) (.type "BaseException") = some true
  is : PySem.W.isClsIn K c = true
  ty : PySem.W.typeIn K (.ref c) = some (.type "type")
theorem Cl.kit {c : Addr} {t : Value} {b : Bool} (h : Cl K c) (s : PySem.W.subIn K t (.ref c) = some b) : PySem.W.kitCls K t (.ref c) = some b := by
  have e : ((PySem.W.clsIn K c).isSome && PySem.W.typeIn K (.ref c) == some (.type "type")) = true := by
    have h2 : (PySem.W.clsIn K c).isSome = true := h.is
    rw [h2, h.ty]
    rfl
  show (if _ = true then _ else none) = _
  rw [if_pos e, s]
theorem Cl.exm {c : Addr} {t : Value} {b : Bool} (h : Cl K c) (s : PySem.W.subIn K t (.ref c) = some b) : PySem.W.exmOne K t (.ref c) = some b := by
  have e : (PySem.W.subIn K (.ref c) (.type "BaseException") == some true) = true := by rw [h.ex]; rfl
  show (if _ = true then _ else none) = _
  rw [if_pos e, h.kit s]
theorem exm3 {t : Value} {c1 c2 c3 : Addr} {b1 b2 b3 : Bool} (h1 : Cl K c1) (h2 : Cl K c2) (h3 : Cl K c3) (s1 : PySem.W.subIn K t (.ref c1) = some b1) (s2 : PySem.W.subIn K t (.ref c2) = some b2) (s3 : PySem.W.subIn K t (.ref c3) = some b3) :
    PySem.W.exmAny K t [.ref c1, .ref c2, .ref c3] = some (b1 || (b2 || (b3 || false))) := by
  unfold PySem.W.exmAny
  rw [h1.exm s1]
  unfold PySem.W.exmAny
  rw [h2.exm s2]
  unfold PySem.W.exmAny
  rw [h3.exm s3]
  rfl
theorem kit_self {c : Addr} : PySem.W.kitOne K (.ref c) (.ref c) = some true := if_pos (beq_self_eq_true _)
theorem kit_no {c d : Addr} (h : Cl K d) (s : PySem.W.subIn K (.ref c) (.ref d) = some false) (ss : PySem.W.subIn K (.ref d) (.ref d) = some true) : PySem.W.kitOne K (.ref c) (.ref d) = some false := by
  have ne : ((Value.ref c) == (Value.ref d)) = false := by
    cases e : ((Value.ref c) == (Value.ref d)) with
    | false => rfl
    | true =>
      have e2 : Value.ref c = Value.ref d := eq_of_beq e
      rw [e2, ss] at s
      cases s
  unfold PySem.W.kitOne
  rw [ne, if_neg (by decide), h.kit s]
end
/-- line, roster: the last written first in the def's order -/
def swap2 {α : Type} (us ws : List α) : List α := us ++ ws.reverse
end XK
end
section
set_option Elab.async false
set_option linter.all false
set_option maxRecDepth 100000
set_option maxHeartbeats 4000000
/-! a text against an empty dict. -/
namespace PySem
open PySem.Spec
theorem xk_str_dict1 (b : Str) (u : Tok) (l : Addr) (es : Array DictEntry) (n : Nat) (dd : Option Addr) (sl : Array (Option Value)) :
    Meets (Builtin.«str.__eq__» ⟨[.str b u, .ref l], []⟩) (fun _ R s => s.heap.get? l = some { cls := .type "dict", dict := dd, data := .dict es n, slots := sl } ∧ R (.ok (.ret .notImplemented)) s) :=
  .of_wp fun prog w A R s h => by
    obtain ⟨hp, g, d, tk, os⟩ := s
    obtain ⟨hl, h⟩ := h
    wp_walk using wpAny_loadPart' hl, wpAny_load hl
    exact ⟨_, rfl, h⟩
theorem xk_str_dict2 (b : Str) (u : Tok) (l : Addr) (es : Array DictEntry) (n : Nat) (dd : Option Addr) (sl : Array (Option Value)) :
    Meets (Builtin.«dict.__eq__» ⟨[.ref l, .str b u], []⟩) (fun _ R s => s.heap.get? l = some { cls := .type "dict", dict := dd, data := .dict es n, slots := sl } ∧ R (.ok (.ret .notImplemented)) s) :=
  .of_wp fun prog w A R s h => by
    obtain ⟨hp, g, d, tk, os⟩ := s
    obtain ⟨hl, h⟩ := h
    have f1 := F.sub_str_dict
    wp_walk using wpAny_loadPart' hl, wpAny_load hl
    exact ⟨_, rfl, h⟩
end PySem
namespace XK
open PySem PySem.Spec PyProof.Rows L2
section
variable {prog : Program} {w : World} {A : Around} {E : Value → Shared → Prop} {s : Shared}
theorem applied_m1 {sl : Addr} {vl vu vs : Value} {n : Nat} {Q : Int × Int × Nat → Shared → Prop} (hs : s.heap.IsSliceOf sl vl vu vs) (pl : IsPart vl none) (pu : IsPart vu none) (ps : IsPart vs (some (-1)))
    (h : Q ((n : Int) - 1, -1, n) s) : wpAny (model prog w) A (Builtin.Slice.sliceApplied (.ref sl) (pure (n : Int))) Q E s := by
  obtain ⟨os, hos, hcs, hds⟩ := id hs
  unfold Builtin.Slice.sliceApplied Builtin.Slice.sliceFields
  refine wpAny_bind (wpAny_bind (wpAny_field hos hds (x := vl) rfl (wpAny_bind (wpAny_field hos hds (x := vu) rfl (wpAny_bind (wpAny_field hos hds (x := vs) rfl (wpAny_pure ?_)))))))
  refine wpAny_bind (HT.slicePart_ ps ?_)
  show wpAny _ _ (if ((-1 : Int) == 0) = true then _ else _) _ _ s
  rw [if_neg (by decide)]
  refine wpAny_bind (HT.slicePart_ pl (wpAny_bind (HT.slicePart_ pu (wpAny_bind (wpAny_pure ?_)))))
  show wpAny _ _ (match Builtin.Slice.sliceAdjust none none (-1) (n : Int) with | (lo, hi) => pure (lo, (-1 : Int), Builtin.Slice.slicePlaces lo hi (-1))) _ _ s
  have e1 : Builtin.Slice.sliceAdjust none none (-1) (n : Int) = ((n : Int) - 1, -1) := by
    first | rfl | simp [Builtin.Slice.sliceAdjust]
  have e2 : Builtin.Slice.slicePlaces ((n : Int) - 1) (-1) (-1) = n := by
    unfold Builtin.Slice.slicePlaces
    simp
    omega
  rw [e1]
  show wpAny _ _ (pure ((n : Int) - 1, (-1 : Int), Builtin.Slice.slicePlaces ((n : Int) - 1) (-1) (-1))) _ _ s
  rw [e2]
  exact wpAny_pure h
end
end XK
--CUT
namespace XK
open PySem PySem.Spec PyProof.Rows L2
section
variable {prog : Program} {w : World} {A : Around} {E : Value → Shared → Prop} {s : Shared}
theorem fm_congr {α β : Type} {f g : α → Option β} : ∀ {l : List α}, (∀ x ∈ l, f x = g x) → l.filterMap f = l.filterMap g
  | [], _ => rfl
  | x :: r, h => by
    rw [List.filterMap_cons, List.filterMap_cons, h x List.mem_cons_self, fm_congr fun y hy => h y (List.mem_cons_of_mem _ hy)]
theorem pick_m1 (xs : Array Value) : ((List.range xs.size).filterMap fun (m : Nat) => xs[(((xs.size : Nat) : Int) - 1 + (m : Int) * (-1)).toNat]?).toArray = xs.toList.reverse.toArray := by
  have h1 : (List.range xs.size).filterMap (fun (m : Nat) => xs[(((xs.size : Nat) : Int) - 1 + (m : Int) * (-1)).toNat]?) = ((List.range xs.size).map fun k => xs.size - 1 - k).filterMap (xs[·]?) := by
    rw [List.filterMap_map]
    refine fm_congr fun m hm => ?_
    have hm' := List.mem_range.mp hm
    show xs[_]? = xs[xs.size - 1 - m]?
    congr 1
    omega
  rw [h1, PySem.W.krv_range, List.filterMap_reverse, PySem.W.krv_all]
theorem getItem_rev {t sl : Addr} {items : Array Value} {vl vu vs : Value} {Q : Value → Shared → Prop} (ht : IsTup s.heap t items) (hs : s.heap.IsSliceOf sl vl vu vs) (pl : IsPart vl none) (pu : IsPart vu none) (ps : IsPart vs (some (-1)))
    (h : Q (.ref s.heap.objs.size) { s with heap := s.heap.push { cls := .type "tuple", data := .seq items.toList.reverse.toArray } }) (hz : items.size ≤ sizeLine) : wpAny (model prog w) A (getItem (.ref t) (.ref sl)) Q E s := by
  have hrev : sizeOk (.seq items.toList.reverse.toArray) := by
    show items.toList.reverse.toArray.size ≤ sizeLine
    rw [List.size_toArray, List.length_reverse, Array.length_toList]
    exact hz
  obtain ⟨ob, hob, hcs, hds⟩ := id hs
  have tyS : s.TypeIs (.ref sl) "slice" := ⟨ob, hob, hcs⟩
  unfold getItem
  try with_reducible refine wpAny_holding ?_
  first | refine wpAny_bind (wpAny_pure ?_) | skip
  refine wpAny_bind (wpAny_sequenceKey ht.typeIs (by decide) ?_)
  refine wpAny_bind (wpAny_callSpecial?_slot (name := Str.ofString "__getitem__") ht.typeIs PyProof.Rows.slot_tuple_getitem (wpAny_call_entry PyProof.Rows.slot_tuple_getitem ht.typeIs entry_tuple_getitem ?_ (args_tuple_getitem _ _)))
  show wpAny _ _ (Builtin.Tuple.tupleItemsOf (.ref t) >>= _) _ _ s
  refine wpAny_bind (tupleItemsOf_ ht (wpAny_bind (wpAny_typeOf tyS ?_)))
  rw [if_pos (by decide)]
  refine wpAny_bind (applied_m1 hs pl pu ps ?_)
  show wpAny _ _ (if (((items.size : Nat) : Int) - 1 == 0 && (-1 : Int) == 1 && items.size == items.size) = true then _ else _) _ _ s
  have no : ¬ ((((items.size : Nat) : Int) - 1 == 0 && (-1 : Int) == 1 && items.size == items.size) = true) := by
    rw [show ((-1 : Int) == 1) = false from rfl, Bool.and_false, Bool.false_and]
    decide
  rw [if_neg no, pick_m1]
  first
    | exact wpAny_bind (m := Builtin.Tuple.tupleExact _) (wpAny_newObj_type (wpAny_pure ⟨_, rfl, wpAny_pure h⟩) hrev)
    | exact wpAny_bind (m := Builtin.Tuple.tupleExact _) (wpAny_newObj_type (wpAny_bind (wpAny_pure (wpAny_pure ⟨_, rfl, wpAny_pure h⟩))) hrev)
    | exact wpAny_bind (wpAny_bind (m := Builtin.Tuple.tupleExact _) (wpAny_newObj_type (wpAny_pure (wpAny_pure ⟨_, rfl, wpAny_pure h⟩)) hrev))
    | exact wpAny_bind (wpAny_bind (m := Builtin.Tuple.tupleExact _) (wpAny_newObj_type (wpAny_pure ⟨_, rfl, wpAny_pure h⟩) hrev))
end
section
variable {X : Cx}
/-- t[::-1] -/
def tRevT (K : PySem.W.Frag) (te : TE) : TE := fun σ H Q => te σ H fun x H1 => ∃ a xs, x = .ref a ∧ SqT K H1 a xs ∧ ∀ p, H1 p = none → Q (.ref p) (upd H1 p (.tup xs.reverse))
theorem pe_revT {e : Expr} {te : TE} {k : Nat} {p1 p2 p3 pos : Pos} (he : PE X e te) : PE X (.Subscript e (.Slice none none (some (.UnaryOp .USub (.Constant (.int 1) k p1) p2)) p3) pos) (tRevT X.K te) := by
  refine ⟨fun pins s σ H Q I h => Subscript_ (thn (he.run pins s σ H _ I h) fun v s1 ⟨x, H1, I1, r1, a, xs, ex, hx, q⟩ => ?_)⟩
  subst ex
  cases r1
  have step : PO X (some (.UnaryOp .USub (.Constant (.int 1) k p1) p2)) (tPart (tUn (rU fun i => .int (-i)) (tC (.int 1)))) := po_some (pe_un un_neg pe_int)
  refine wpAny_Slice (thn (po_none.run pins s1 σ H1 (fun o H2 => o = none ∧ H2 = H1) I1 ⟨rfl, rfl⟩) fun vl s2 ⟨l, H2, I2, pl, el, e2⟩ => ?_)
  subst el e2
  refine thn (po_none.run pins s2 σ H2 (fun o H3 => o = none ∧ H3 = H2) I2 ⟨rfl, rfl⟩) fun vu s3 ⟨u, H3, I3, pu, eu, e3⟩ => ?_
  subst eu e3
  refine thn (step.run pins s3 σ H3 (fun o H4 => o = some (-1) ∧ H4 = H3) I3 ⟨1, rfl, -1, rfl, rfl, rfl⟩) fun vs s4 ⟨o, H4, I4, pst, eo, e4⟩ => ?_
  subst eo e4
  have I5 : Inv X pins σ H4 { s4 with heap := s4.heap.push { cls := .type "slice", data := .fields #[vl, vu, vs] } } := I4.kept (t' := s4.toks) fun b ob q => Heap.get?_push_of_some _ q
  obtain ⟨its, r, ht, hz⟩ := I5.tuple hx
  have hlen := r.length
  show wpAny (model X.prog X.w) X.A (subscriptTail e (.Slice none none (some (.UnaryOp .USub (.Constant (.int 1) k p1) p2)) p3) (.ref a) (.ref s4.heap.objs.size)) (EP X pins σ Q) X.xe { s4 with heap := s4.heap.push { cls := .type "slice", data := .fields #[vl, vu, vs] } }
  refine tail_any (ops := [.ref a, .ref s4.heap.objs.size]) ht.typeIs (PyProof.Rows.slot_tuple_getitem.lookup) ?_ (by with_unfolding_all rfl)
  refine getItem_rev ht (Heap.IsSliceOf.new _ vl vu vs) pl pu pst ?_ (by rw [List.size_toArray]; omega)
  refine ⟨.ref _, _, I5.laid (t' := s4.toks) (o := .tup xs.reverse) (fun b ob q => Heap.get?_push_of_some _ q) (Nat.le_refl _) ?_, rfl, q _ (I5.hok.fresh (Nat.le_refl _))⟩
  exact ⟨by rw [List.length_reverse]; exact hz, _, r.reverse, IsTup.new _ _⟩
/-- a text == data -/
def rEqZ (K : PySem.W.Frag) : R2 := fun x y H Q => ∃ (z : Str) (d : PyData), x = .str z ∧ SeqAt.shaped (.str z) = true ∧ Dz K H y d ∧ (SeqAt.shaped d = true ∨ d = .dict []) ∧ Q (.bl (PyData.eqv (.str z) d)) H
theorem op_eqZ (hu : X.A.units + 64 < cLine) : OpR X (compareOp .Eq) (rEqZ X.K) := by
  intro pins s σ H x y v u Q I rx ry h
  obtain ⟨z, d, rfl, hz, hd, hs, q⟩ := h
  rcases hs with hs | rfl
  · obtain ⟨as, r1⟩ := Dz.reads I d y u hd ry
    obtain ⟨t, rfl⟩ := rx
    exact SeqAt.compareEq_shaped (Reads.str z t) r1 hz hs hu ⟨.bl _, H, I, rfl, q⟩
  · cases hd with
    | dic ha =>
      cases ry
      obtain ⟨t, rfl⟩ := rx
      obtain ⟨o, es, n, ho, hc, hdt, _⟩ := emptyDict I ha
      obtain ⟨cls, dd, data, sl⟩ := o
      simp only at hc hdt
      subst hc hdt
      refine SeqAt.rc_eq_decline_or (k := false) (typeIs_str s z t) ⟨_, ho, rfl⟩ (by decide) F.sub_dict_str F.slot_str_eq F.slot_dict_eq_refl
        (fun _ hq => call_meets F.slot_str_eq (typeIs_str s z t) F.entry_str_eq (F.args_str_eq_2 _ _) (xk_str_dict1 z t _ es n dd sl) ⟨ho, hq⟩)
        (fun _ hq => call_meets F.slot_dict_eq_refl ⟨_, ho, rfl⟩ F.entry_dict_eq (F.args_dict_eq_2 _ _) (xk_str_dict2 z t _ es n dd sl) ⟨ho, hq⟩)
        (fun _ hq => wpAny_of_eq (rfl : isSame (.str z t) (.ref _) = pure false) hq) (.inr (by omega)) ?_
      exact ⟨.bl _, H, I, rfl, q⟩
end
end XK
end
section
set_option Elab.async false
set_option linter.all false
set_option maxRecDepth 100000
set_option maxHeartbeats 4000000
/-! Tuples that bear no dict of their own, from their making on. -/
namespace EV
open PySem PySem.Spec PyProof.Rows L2 XK
/-- at a: a tuple of xs, an object without a dict -/
def TupP (S : Hp) (a : Addr) (xs : List V) : Prop := ∃ o : Obj, o.dict = none ∧ S a = some (.frz o (.tup xs))
theorem TupP.sq {K : PySem.W.Frag} {S : Hp} {a : Addr} {xs : List V} (h : TupP S a xs) : SqT K S a xs := let ⟨o, _, h⟩ := h; .inl (.inr ⟨o, h⟩)
/-- what a new one is wished -/
abbrev NewT (H : Hp) (xs : List V) (Q : VK) : Prop := ∀ (p : Addr) (o : Obj), H p = none → o.dict = none → Q (.ref p) (upd H p (.frz o (.tup xs)))
section
variable {X : Cx} {pins : List (Addr × Obj)} {σ : L2.St} {H : Hp} {s : Shared} {Q : VK}
theorem fin_tup {xs : List V} {its : List Value} (I : Inv X pins σ H s) (r : Vals xs its) (hz : xs.length ≤ sizeLine) (q : NewT H xs Q) : EP X pins σ Q (.ref s.heap.objs.size) { s with heap := s.heap.push { cls := .type "tuple", data := .seq its.toArray } } := by
  have e := Heap.get?_push_size s.heap (o := { cls := .type "tuple", data := .seq its.toArray }) rfl
  refine ⟨.ref _, _, I.laid (t' := s.toks) (o := .frz { cls := .type "tuple", data := .seq its.toArray } (.tup xs)) (fun b u w => Heap.get?_push_of_some _ w) (Nat.le_refl _) ⟨e, hz, its, r, IsTup.new _ _⟩, rfl, q _ _ (I.hok.fresh (Nat.le_refl _)) rfl⟩
end
section
variable {X : Cx} {e : PySem.Expr} {es : List PySem.Expr} {te : TE} {t : TA} {pos : Pos}
def tTupP (t : TA) : TE := fun σ H Q => t σ H fun xs H1 => xs.length ≤ sizeLine ∧ NewT H1 xs Q
theorem pe_tupP {x1} (h : PA X es t) : PE X (.Tuple es x1 pos) (tTupP t) := ⟨fun pins s σ H Q I hq => wpAny_Tuple_spliced (thn (h.run pos pins s σ H _ I hq) fun us s1 ⟨xs, H1, I1, r, z, q⟩ => ⟨by rw [← r.length]; exact z, fin_tup I1 r z q⟩)⟩
theorem call_tupleP : CallR X (.type "tuple") (fun xs H Q => ∃ p ys, xs = [.ref p] ∧ ((SqL X.K H p ys ∧ NewT H ys Q) ∨ (SqT X.K H p ys ∧ Q (.ref p) H))) := by
  intro pins s σ H xs us Q I r ⟨p, ys, e, h⟩
  subst e
  rcases h with ⟨hq, q⟩ | h
  · obtain ⟨u, rfl, rx⟩ := vals1 r
    cases rx
    obtain ⟨its, r', pl, hz⟩ := I.list hq
    have hlen := r'.length
    exact call_tuple_list pl.isList (fun h' kp => fin_tup (I.kept (t' := s.toks) (h' := h') kp) r' hz q) (by rw [List.size_toArray]; omega)
  · exact call_tuple_of pins s σ H _ us Q I r ⟨p, ys, rfl, .inr h⟩
def rSlP (K : PySem.W.Frag) : V → Option Int → Option Int → Hp → VK → Prop := fun x lo hi H Q => ∃ a xs, x = .ref a ∧ SqT K H a xs ∧ (HT.sIx xs.length 0 lo = 0 ∧ HT.sIx xs.length xs.length hi = xs.length → Q (.ref a) H) ∧ (¬ (HT.sIx xs.length 0 lo = 0 ∧ HT.sIx xs.length xs.length hi = xs.length) → NewT H (cutV xs lo hi) Q)
theorem sl_tupP : SlR X (rSlP X.K) := by
  intro pins s σ H x v vl vu lo hi sl Q I rx hs pl pu ⟨a, xs, ex, hx, q1, q2⟩
  subst ex
  by_cases hw : HT.sIx xs.length 0 lo = 0 ∧ HT.sIx xs.length xs.length hi = xs.length
  · exact sl_tupA pins s σ H _ v vl vu lo hi sl Q I rx hs pl pu ⟨a, xs, rfl, hx, q1, fun z => absurd hw z⟩
  · cases rx
    obtain ⟨its, r, ht, hz⟩ := I.tuple hx
    have hl : its.toArray.size = xs.length := by rw [List.size_toArray, r.length]
    refine ⟨"tuple", _, PyProof.Rows.slot_tuple_getitem.lookup, ht.typeIs, HT.getItem_tuple_cut ht hs pl pu (by rw [hl]; exact hw) ?_ (by rw [hl]; exact hz)⟩
    rw [hl]
    exact fin_tup I ((r.drop _).take _) (Nat.le_trans (cutV_length xs lo hi) hz) (q2 hw)
def rCatP (K : PySem.W.Frag) : R2 := fun x y H Q => ∃ a b xs ys, x = .ref a ∧ y = .ref b ∧ SqT K H a xs ∧ SqT K H b ys ∧ xs.length + ys.length ≤ sizeLine ∧ (xs = [] → Q (.ref b) H) ∧ (xs ≠ [] → ys = [] → Q (.ref a) H) ∧ (xs ≠ [] → ys ≠ [] → NewT H (xs ++ ys) Q)
theorem op_catP : OpR X (binaryOp .Add) (rCatP X.K) := by
  intro pins s σ H x y v u Q I rx ry ⟨a, b, xs, ys, ex, ey, ha, hb, hz, q0, q1, q2⟩
  subst ex ey
  by_cases h : xs ≠ [] ∧ ys ≠ []
  · cases rx
    cases ry
    obtain ⟨i1, r1, p1, _⟩ := I.tuple ha
    obtain ⟨i2, r2, p2, _⟩ := I.tuple hb
    exact HT.cat_tup p1 p2 (fun z => h.1 (r1.nil_iff.mp z)) (fun z => absurd (r2.nil_iff.mp z) h.2) (fun _ => fin_tup I (r1.append r2) (by rw [List.length_append]; exact hz) (q2 h.1 h.2)) (by rw [← r1.length, ← r2.length]; exact hz)
  · exact op_catA pins s σ H _ _ v u Q I rx ry ⟨a, b, xs, ys, rfl, rfl, ha, hb, hz, q0, q1, fun h1 h2 => absurd ⟨h1, h2⟩ h⟩
def tRevP (K : PySem.W.Frag) (te : TE) : TE := fun σ H Q => te σ H fun x H1 => ∃ a xs, x = .ref a ∧ SqT K H1 a xs ∧ NewT H1 xs.reverse Q
theorem pe_revP {k : Nat} {p1 p2 p3 : Pos} (he : PE X e te) : PE X (.Subscript e (.Slice none none (some (.UnaryOp .USub (.Constant (.int 1) k p1) p2)) p3) pos) (tRevP X.K te) := by
  refine ⟨fun pins s σ H Q I h => Subscript_ (thn (he.run pins s σ H _ I h) fun v s1 ⟨x, H1, I1, r1, a, xs, ex, hx, q⟩ => ?_)⟩
  subst ex
  cases r1
  have step : PO X (some (.UnaryOp .USub (.Constant (.int 1) k p1) p2)) (tPart (tUn (rU fun i => .int (-i)) (tC (.int 1)))) := po_some (pe_un un_neg pe_int)
  refine wpAny_Slice (thn (po_none.run pins s1 σ H1 (fun o H2 => o = none ∧ H2 = H1) I1 ⟨rfl, rfl⟩) fun vl s2 ⟨l, H2, I2, pl, el, e2⟩ => ?_)
  subst el e2
  refine thn (po_none.run pins s2 σ H2 (fun o H3 => o = none ∧ H3 = H2) I2 ⟨rfl, rfl⟩) fun vu s3 ⟨u, H3, I3, pu, eu, e3⟩ => ?_
  subst eu e3
  refine thn (step.run pins s3 σ H3 (fun o H4 => o = some (-1) ∧ H4 = H3) I3 ⟨1, rfl, -1, rfl, rfl, rfl⟩) fun vs s4 ⟨o, H4, I4, pst, eo, e4⟩ => ?_
  subst eo e4
  have I5 : Inv X pins σ H4 { s4 with heap := s4.heap.push { cls := .type "slice", data := .fields #[vl, vu, vs] } } := I4.kept (t' := s4.toks) fun b ob q => Heap.get?_push_of_some _ q
  obtain ⟨its, r, ht, hz⟩ := I5.tuple hx
  have hlen := r.length
  show wpAny (model X.prog X.w) X.A (subscriptTail e (.Slice none none (some (.UnaryOp .USub (.Constant (.int 1) k p1) p2)) p3) (.ref a) (.ref s4.heap.objs.size)) (EP X pins σ Q) X.xe { s4 with heap := s4.heap.push { cls := .type "slice", data := .fields #[vl, vu, vs] } }
  refine tail_any (ops := [.ref a, .ref s4.heap.objs.size]) ht.typeIs (PyProof.Rows.slot_tuple_getitem.lookup) ?_ (by with_unfolding_all rfl)
  exact getItem_rev ht (Heap.IsSliceOf.new _ vl vu vs) pl pu pst (fin_tup I5 r.reverse (by rw [List.length_reverse]; exact hz) q) (by rw [List.size_toArray]; omega)
/-! dict(x), x a tuple or a list of such pairs -/
def rDictP (K : PySem.W.Frag) : List V → Hp → VK → Prop := fun xs H Q => ∃ (a : Addr) (ps : List Addr) (kvs : List (Key × V)), xs = [.ref a] ∧ (TupP H a (ps.map V.ref) ∨ SqL K H a (ps.map V.ref)) ∧ Paired (fun p kv => SqT K H p [kV kv.1, kv.2]) ps kvs ∧ ∀ p, H p = none → Q (.ref p) (upd H p (.dK (mergeK [] kvs)))
theorem call_dictT (hcalm : X.calm = true) : CallR X (.type "dict") (rDictP X.K) := by
  intro pins s σ H xs us Q I r ⟨a, ps, kvs, ex, hq, hp, q⟩
  subst ex
  rcases hq with hq | hq
  · obtain ⟨u, eu, rx⟩ := vals1 r
    subst eu
    cases rx
    obtain ⟨o, hd, hH⟩ := hq
    obtain ⟨ho, hz, its, rv, o', ho', hc, n, hdat⟩ := (show ObjOk X.prog X.w H s.heap a (.frz o (.tup (ps.map V.ref))) from I.hok a _ hH)
    rw [ho] at ho'
    cases ho'
    have ei := refs_at rv
    subst ei
    rw [List.length_map] at hz
    obtain ⟨prs, rel, hl, hpr⟩ := pairs_of I hp
    have hpl : ∀ (j : Nat) (q : Key × Value), prs[j]? = some q → ∃ (b : Addr) (u : Value), ps[j]? = some b ∧ IsTup s.heap b #[u, q.2] ∧ keyIs q.1 u = true := hpr
    -- the keys as they stand
    have hkey : ∀ j, j < prs.length → ∃ u, IsTup s.heap (ps.getD j 0) #[u, (prs.getD j (.inl 0, .none)).2] ∧ keyIs (prs.getD j (.inl 0, .none)).1 u = true ∧ ps[j]? = some (ps.getD j 0) := fun j hj => by
      have e : prs[j]? = some prs[j] := by simp [hj]
      obtain ⟨b, u, h1, h2, h3⟩ := hpl j _ e
      have e2 : prs.getD j (.inl 0, .none) = prs[j] := by simp [List.getD, e]
      have e3 : ps.getD j 0 = b := by simp [List.getD, h1]
      rw [e2, e3]
      exact ⟨u, h2, h3, h1⟩
    let us : Nat → Value := fun j => if h : j < prs.length then (hkey j h).choose else .none
    have hus : ∀ j (h : j < prs.length), IsTup s.heap (ps.getD j 0) #[us j, (prs.getD j (.inl 0, .none)).2] ∧ keyIs (prs.getD j (.inl 0, .none)).1 (us j) = true ∧ ps[j]? = some (ps.getD j 0) := fun j h => by
      have e : us j = (hkey j h).choose := dif_pos h
      rw [e]
      exact (hkey j h).choose_spec
    let vps : List (Value × Value) := (List.range prs.length).map fun j => (us j, (prs.getD j (.inl 0, .none)).2)
    have vl : vps.length = prs.length := by simp [vps]
    have vat : ∀ {j : Nat} {k v : Value}, vps[j]? = some (k, v) → j < prs.length ∧ k = us j ∧ v = (prs.getD j (.inl 0, .none)).2 := fun {j k v} e => by
      have hj : j < prs.length := by rw [← vl]; exact (List.getElem?_eq_some_iff.mp e).1
      have e' : vps[j]? = some (us j, (prs.getD j (.inl 0, .none)).2) := by simp [vps, hj]
      rw [e'] at e
      cases e
      exact ⟨hj, rfl, rfl⟩
    refine PySem.call_dict_pairs (kvs := prs) (knd := mixKind X.prog X.w) (PairArg.tuple a (ps.map Value.ref).toArray (fun j => ps.getD j 0) vps) (I.ok.hd hcalm) ⟨⟨o, n, ho, hc, hd, hdat⟩, by simp [vl, hl], fun j k v e => ?_⟩ ⟨vl.symm, fun i key v e => ?_⟩ (by rw [vl, hl]; exact hz) fun h' tk hd' k => ?_
    · obtain ⟨hj, rfl, rfl⟩ := vat e
      obtain ⟨h1, h2, h3⟩ := hus j hj
      exact ⟨by rw [List.getElem?_toArray, List.getElem?_map, h3]; rfl, .inl h1⟩
    · obtain ⟨hj, rfl, rfl⟩ := vat e
      obtain ⟨h1, h2, h3⟩ := hus i hj
      have e2 : prs[i]? = some prs[i] := by simp [hj]
      refine ⟨(prs.getD i (.inl 0, .none)).1, ?_, h2⟩
      simp [List.getD, e2]
    · have hm : (s.heap.objs.size == sysModules) = false := beq_eq_false_iff_ne.mpr (Nat.ne_of_gt I.big)
      have hlen : (mergeK [] kvs).length ≤ sizeLine := Nat.le_trans (length_mergeK kvs []) (by rw [List.length_nil, Nat.zero_add, rel.length, hl]; exact hz)
      exact ⟨.ref s.heap.objs.size, upd H s.heap.objs.size (.dK (mergeK [] kvs)), I.laid (t' := tk) (fun b o e => k b o (by simp) e) (Nat.le_refl _) (show ObjOk X.prog X.w _ _ _ (.dK (mergeK [] kvs)) from ⟨hlen, hm, _, KV.merge rel .nil, hd'⟩), rfl, q _ (I.hok.fresh (Nat.le_refl _))⟩
  · exact call_dictP hcalm pins s σ H _ us Q I r ⟨a, ps, kvs, rfl, hq, hp, q⟩
end
end EV
end
section
set_option Elab.async false
set_option linter.all false
set_option maxRecDepth 100000
set_option maxHeartbeats 4000000
/-! Programs as functions of data: values, runs with draws, the heap's part that is shared. -/
namespace EV
open PySem PySem.Spec PyProof.Rows L2 XK

inductive Val where
  | non | bl (b : Bool) | int (i : Int) | str (z : Str) | tup (xs : List Val) | lst (xs : List Val) | dic (kvs : List (Key × Val)) | exc (C f : Str) (x : Val) | fn (a : Addr)
structure Err where
  C : Str
  f : Str
  x : Val
/-- a run: an answer, an error of the program's own, a draw below b and what follows it -/
inductive T (α : Type) where
  | ret (a : α) | err (e : Err) | draw (b : Int) (k : Int → T α) | bad
/-- a run without draws -/
inductive R where
  | ret (d : Val) | err (e : Err) | bad
def T.hd {α β : Type} : T α → (α → T β) → (Err → T β) → T β
  | .ret a, f, _ => f a
  | .err e, _, g => g e
  | .draw b k, f, g => .draw b fun v => (k v).hd f g
  | .bad, _, _ => .bad
def T.bind {α β : Type} (t : T α) (f : α → T β) : T β := t.hd f .err
def All {α : Type} : T α → Nat → (α → Nat → Prop) → (Err → Nat → Prop) → Prop
  | .ret a, n, Q, _ => Q a n
  | .err e, n, _, E => E e n
  | .draw b k, n, Q, E => ∃ m, n = m + 1 ∧ 0 < b ∧ b < 1073741824 ∧ ∀ v, 0 ≤ v → v < b → All (k v) m Q E
  | .bad, _, _, _ => False
theorem all_mono {α : Type} : ∀ {t : T α} {n : Nat} {Q Q' : α → Nat → Prop} {E E' : Err → Nat → Prop}, All t n Q E → (∀ a m, Q a m → Q' a m) → (∀ e m, E e m → E' e m) → All t n Q' E'
  | .ret _, _, _, _, _, _, h, q, _ => q _ _ h
  | .err _, _, _, _, _, _, h, _, q => q _ _ h
  | .draw _ _, _, _, _, _, _, ⟨m, e, b0, b1, h⟩, q, q' => ⟨m, e, b0, b1, fun v h0 h1 => all_mono (h v h0 h1) q q'⟩
theorem all_hd {α β : Type} : ∀ {t : T α} {f : α → T β} {g : Err → T β} {n : Nat} {Q : β → Nat → Prop} {E : Err → Nat → Prop}, All (t.hd f g) n Q E ↔ All t n (fun a m => All (f a) m Q E) (fun e m => All (g e) m Q E)
  | .ret _, _, _, _, _, _ => Iff.rfl
  | .err _, _, _, _, _, _ => Iff.rfl
  | .draw b k, f, g, n, Q, E => by
    constructor
    · rintro ⟨m, e, b0, b1, h⟩
      exact ⟨m, e, b0, b1, fun v h0 h1 => all_hd.mp (h v h0 h1)⟩
    · rintro ⟨m, e, b0, b1, h⟩
      exact ⟨m, e, b0, b1, fun v h0 h1 => all_hd.mpr (h v h0 h1)⟩
  | .bad, _, _, _, _, _ => Iff.rfl
theorem all_bind {α β : Type} {t : T α} {f : α → T β} {n : Nat} {Q : β → Nat → Prop} {E : Err → Nat → Prop} : All (t.bind f) n Q E ↔ All t n (fun a m => All (f a) m Q E) E := all_hd
def ofO {α : Type} : Option α → T α
  | some a => .ret a
  | none => .bad
def ofR : R → T Val
  | .ret d => .ret d
  | .err e => .err e
  | .bad => .bad
theorem all_ofO {α : Type} {o : Option α} {n : Nat} {Q : α → Nat → Prop} {E : Err → Nat → Prop} : All (ofO o) n Q E ↔ ∃ a, o = some a ∧ Q a n := by
  cases o with
  | none => exact ⟨fun h => h.elim, fun ⟨_, h, _⟩ => by cases h⟩
  | some a => exact ⟨fun h => ⟨a, rfl, h⟩, fun ⟨b, h, q⟩ => by cases h; exact q⟩

/-! ### values in the heap -/
mutual
inductive DV (K : PySem.W.Frag) (cl : Str → Option Addr) (S : Hp) : V → Val → Prop
  | non : DV K cl S .non .non
  | bl (b : Bool) : DV K cl S (.bl b) (.bl b)
  | int (i : Int) : DV K cl S (.int i) (.int i)
  | str (z : Str) : DV K cl S (.str z) (.str z)
  | tup {a : Addr} {xs : List V} {ds : List Val} : TupP S a xs → DVs K cl S xs ds → DV K cl S (.ref a) (.tup ds)
  | lst {a : Addr} {xs : List V} {ds : List Val} : SqL K S a xs → DVs K cl S xs ds → DV K cl S (.ref a) (.lst ds)
  | dic {a : Addr} {kvs : List (Key × V)} {ds : List (Key × Val)} : S a = some (.dK kvs) → DVd K cl S kvs ds → DV K cl S (.ref a) (.dic ds)
  | fn (a : Addr) : DV K cl S (.ref a) (.fn a)
  | exc {a C d : Addr} {n f : Str} {v : V} {x : Val} : S a = some (Xo a (.ref C) (some d)) → S d = some (.xd [(f, v)]) → cl n = some C → DV K cl S v x → DV K cl S (.ref a) (.exc n f x)
inductive DVs (K : PySem.W.Frag) (cl : Str → Option Addr) (S : Hp) : List V → List Val → Prop
  | nil : DVs K cl S [] []
  | cons {v : V} {vs : List V} {d : Val} {ds : List Val} : DV K cl S v d → DVs K cl S vs ds → DVs K cl S (v :: vs) (d :: ds)
inductive DVd (K : PySem.W.Frag) (cl : Str → Option Addr) (S : Hp) : List (Key × V) → List (Key × Val) → Prop
  | nil : DVd K cl S [] []
  | cons {k : Key} {v : V} {vs : List (Key × V)} {d : Val} {ds : List (Key × Val)} : DV K cl S v d → DVd K cl S vs ds → DVd K cl S ((k, v) :: vs) ((k, d) :: ds)
end
def Sub (S H : Hp) : Prop := ∀ a o, S a = some o → H a = some o
theorem Sub.refl (S : Hp) : Sub S S := fun _ _ h => h
theorem Sub.trans {S H H' : Hp} (x : Sub S H) (y : Sub H H') : Sub S H' := fun a o h => y a o (x a o h)
theorem TupP.mono {S S' : Hp} {a : Addr} {xs : List V} (e : Sub S S') (h : TupP S a xs) : TupP S' a xs := let ⟨o, h1, h2⟩ := h; ⟨o, h1, e _ _ h2⟩
section
variable {K : PySem.W.Frag} {cl : Str → Option Addr} {S S' : Hp}
mutual
theorem DV.mono (e : Sub S S') : ∀ {v : V} {d : Val}, DV K cl S v d → DV K cl S' v d
  | _, _, .non => .non
  | _, _, .bl b => .bl b
  | _, _, .int i => .int i
  | _, _, .str z => .str z
  | _, _, .tup h a => .tup (h.mono e) (DVs.mono e a)
  | _, _, .lst h a => .lst (Same.seq e h) (DVs.mono e a)
  | _, _, .dic h a => .dic (e _ _ h) (DVd.mono e a)
  | _, _, .fn a => .fn a
  | _, _, .exc h1 h2 h3 a => .exc (e _ _ h1) (e _ _ h2) h3 (DV.mono e a)
theorem DVs.mono (e : Sub S S') : ∀ {v : List V} {d : List Val}, DVs K cl S v d → DVs K cl S' v d
  | _, _, .nil => .nil
  | _, _, .cons a b => .cons (DV.mono e a) (DVs.mono e b)
theorem DVd.mono (e : Sub S S') : ∀ {v : List (Key × V)} {d : List (Key × Val)}, DVd K cl S v d → DVd K cl S' v d
  | _, _, .nil => .nil
  | _, _, .cons a b => .cons (DV.mono e a) (DVd.mono e b)
end
theorem DVs.len : ∀ {vs : List V} {ds : List Val}, DVs K cl S vs ds → vs.length = ds.length
  | _, _, .nil => rfl
  | _, _, .cons _ b => by rw [List.length_cons, List.length_cons, DVs.len b]
theorem DVs.get : ∀ {vs : List V} {ds : List Val} {i : Nat} {d : Val}, DVs K cl S vs ds → ds[i]? = some d → ∃ v, vs[i]? = some v ∧ DV K cl S v d
  | _, _, _, _, .nil, e => by simp at e
  | _, _, 0, _, .cons a _, e => by
    simp at e
    subst e
    exact ⟨_, rfl, a⟩
  | _, _, i + 1, _, .cons _ b, e => by
    obtain ⟨v, h1, h2⟩ := DVs.get b (i := i) (by simpa using e)
    exact ⟨v, by simpa using h1, h2⟩
theorem DVs.append : ∀ {vs ws : List V} {ds es : List Val}, DVs K cl S vs ds → DVs K cl S ws es → DVs K cl S (vs ++ ws) (ds ++ es)
  | _, _, _, _, .nil, h => h
  | _, _, _, _, .cons a b, h => .cons a (DVs.append b h)
theorem DVs.take : ∀ {vs : List V} {ds : List Val} (n : Nat), DVs K cl S vs ds → DVs K cl S (vs.take n) (ds.take n)
  | _, _, 0, _ => .nil
  | _, _, _ + 1, .nil => .nil
  | _, _, n + 1, .cons a b => .cons a (DVs.take n b)
theorem DVs.drop : ∀ {vs : List V} {ds : List Val} (n : Nat), DVs K cl S vs ds → DVs K cl S (vs.drop n) (ds.drop n)
  | _, _, 0, h => h
  | _, _, _ + 1, .nil => .nil
  | _, _, n + 1, .cons _ b => DVs.drop n b
theorem DVs.set {v : V} {d : Val} (x : DV K cl S v d) : ∀ {vs : List V} {ds : List Val} (n : Nat), DVs K cl S vs ds → DVs K cl S (vs.set n v) (ds.set n d)
  | _, _, _, .nil => .nil
  | _, _, 0, .cons _ b => .cons x b
  | _, _, n + 1, .cons a b => .cons a (DVs.set x n b)
theorem DVs.erase : ∀ {vs : List V} {ds : List Val} (n : Nat), DVs K cl S vs ds → DVs K cl S (vs.eraseIdx n) (ds.eraseIdx n)
  | _, _, _, .nil => .nil
  | _, _, 0, .cons _ b => b
  | _, _, n + 1, .cons a b => .cons a (DVs.erase n b)
theorem DVs.rev {vs : List V} {ds : List Val} (h : DVs K cl S vs ds) : DVs K cl S vs.reverse ds.reverse := by
  have go : ∀ {vs : List V} {ds : List Val}, DVs K cl S vs ds → ∀ {ws : List V} {es : List Val}, DVs K cl S ws es → DVs K cl S (vs.reverseAux ws) (ds.reverseAux es) := by
    intro vs
    induction vs with
    | nil => intro ds h ws es g; cases h; exact g
    | cons v vs ih => intro ds h ws es g; cases h with | cons a b => exact ih b (.cons a g)
  exact go h .nil
end

/-! ### growth -/
/-- no table of code objects -/
def NoT (S : Hp) : Prop := ∀ a ps, S a ≠ some (.tbl ps)
/-- what was there stays; the shared part grows by new things alone -/
structure Gr (H S H' S' : Hp) : Prop where
  keep : Sub H H'
  up : Sub S S'
  sub : Sub S' H'
  new : ∀ a o, S' a = some o → S a = some o ∨ H a = none
  nt : NoT S → NoT S'
theorem Gr.refl {H S : Hp} (h : Sub S H) : Gr H S H S := ⟨Sub.refl _, Sub.refl _, h, fun _ _ e => .inl e, fun z => z⟩
theorem Gr.trans {H S H1 S1 H2 S2 : Hp} (x : Gr H S H1 S1) (y : Gr H1 S1 H2 S2) : Gr H S H2 S2 := by
  refine ⟨x.keep.trans y.keep, x.up.trans y.up, y.sub, fun a o e => ?_, fun z => y.nt (x.nt z)⟩
  rcases y.new a o e with e | e
  · exact x.new a o e
  · right
    cases h : H a with
    | none => rfl
    | some u => rw [x.keep a u h] at e; cases e
theorem upd_none {H : Hp} {p a : Addr} {o u : HO} (h : upd H p o a = some u) : (a = p ∧ u = o) ∨ (a ≠ p ∧ H a = some u) := by
  unfold upd at h
  split at h
  · rename_i e
    cases h
    exact .inl ⟨e, rfl⟩
  · rename_i e
    exact .inr ⟨e, h⟩
theorem Sub.upd2 {S H : Hp} {p : Addr} {o : HO} (h : Sub S H) : Sub (upd S p o) (upd H p o) := fun a u e => by
  rcases upd_none e with ⟨rfl, rfl⟩ | ⟨n, e⟩
  · exact upd_same
  · rw [upd_ne n]; exact h _ _ e
theorem Sub.new {S : Hp} {p : Addr} {o : HO} (n : S p = none) : Sub S (upd S p o) := fun a u e => by
  rw [upd_ne (ne_of_none e n)]; exact e
theorem Sub.free {S H : Hp} {p : Addr} (h : Sub S H) (n : H p = none) : S p = none := by
  cases e : S p with
  | none => rfl
  | some u => rw [h p u e] at n; cases n
/-- a new shared thing -/
theorem NoT.new {S : Hp} {p : Addr} {o : HO} (z : NoT S) (ho : ∀ ps, o ≠ .tbl ps := by intro _ z; cases z) : NoT (upd S p o) := fun a ps e => by
  rcases upd_none e with ⟨_, q⟩ | ⟨_, q⟩
  · exact ho ps q.symm
  · exact z a ps q
theorem Gr.alloc {H S : Hp} {p : Addr} {o : HO} (h : Sub S H) (n : H p = none) (ho : ∀ ps, o ≠ .tbl ps := by intro _ z; cases z) : Gr H S (upd H p o) (upd S p o) := by
  refine ⟨Sub.new n, Sub.new (h.free n), h.upd2, fun a u e => ?_, fun z => z.new ho⟩
  rcases upd_none e with ⟨rfl, rfl⟩ | ⟨_, e⟩
  · exact .inr n
  · exact .inl e
/-- a new thing that is not shared -/
theorem Gr.alloc0 {H S : Hp} {p : Addr} {o : HO} (h : Sub S H) (n : H p = none) : Gr H S (upd H p o) S :=
  ⟨Sub.new n, Sub.refl _, h.trans (Sub.new n), fun a u e => .inl e, fun z => z⟩

/-! ### the state of the draws -/
def dkv (c : Addr) (a l u : Int) : List (Key × V) := [(Sum.inr "cells", .ref c), (Sum.inr "at", .int a), (Sum.inr "left", .int l), (Sum.inr "used", .int u)]
/-- the state of the draws, at p, after at most m of them -/
def Dr (H : Hp) (p c : Addr) (m : Nat) : Prop := ∃ (ns : List Int) (a l u : Int), H p = some (.dK (dkv c a l u)) ∧ H c = some (.lst (ns.map V.int)) ∧ 0 < ns.length ∧ ns.length ≤ 64 ∧ 0 ≤ a ∧ a ≤ m ∧ 0 ≤ l ∧ 0 ≤ u ∧ u ≤ m
theorem Dr.at {H H' : Hp} {p c : Addr} {m : Nat} (x : Dr H p c m) (h1 : ∀ o, H p = some o → H' p = some o) (h2 : ∀ o, H c = some o → H' c = some o) : Dr H' p c m := by
  obtain ⟨ns, a, l, u, e1, e2, r⟩ := x
  exact ⟨ns, a, l, u, h1 _ e1, h2 _ e2, r⟩
theorem Dr.there {H : Hp} {p c : Addr} {m : Nat} (x : Dr H p c m) : (∃ o, H p = some o) ∧ ∃ o, H c = some o := by
  obtain ⟨ns, a, l, u, e1, e2, r⟩ := x
  exact ⟨⟨_, e1⟩, ⟨_, e2⟩⟩
theorem Dr.sub {H H' : Hp} {p c : Addr} {m : Nat} (x : Dr H p c m) (h : Sub H H') : Dr H' p c m := x.at (fun o => h p o) (fun o => h c o)
theorem Dr.mono {H : Hp} {p c : Addr} {m k : Nat} (x : Dr H p c m) (h : m ≤ k) : Dr H p c k := by
  obtain ⟨ns, a, l, u, e1, e2, e3, e4, e5, e6, e7, e8, e9⟩ := x
  exact ⟨ns, a, l, u, e1, e2, e3, e4, e5, by omega, e7, e8, by omega⟩

/-- a def's context: its written part, the own error classes, the slots that hold lists and dicts of its own, the draws' places, the entry's heap and shared part -/
structure Ct where
  K : PySem.W.Frag
  cl : Str → Option Addr
  ow : List Nat
  dr : Option (Addr × Addr)
  H0 : Hp
  S0 : Hp
  dsl : Nat := 0
  tb : List (Addr × Str) := []
/-- growth with draws -/
structure Gd (tb : List (Addr × Str)) (dr : Option (Addr × Addr)) (H S H' S' : Hp) : Prop where
  keep : ∀ a o, (∀ p cc, dr = some (p, cc) → a ≠ p) → (∀ ps, o ≠ .tbl ps) → H a = some o → H' a = some o
  up : Sub S S'
  sub : Sub S' H'
  new : ∀ a o, S' a = some o → S a = some o ∨ H a = none
  dom : ∀ a o, H a = some o → H' a ≠ none
  tab : ∀ p ∈ tb, LamX.TabS H p.1 p.2 → LamX.TabS H' p.1 p.2
  nt : NoT S → NoT S'
theorem Gr.d {dr : Option (Addr × Addr)} {H S H' S' : Hp} (x : Gr H S H' S') : Gd tb dr H S H' S' := ⟨fun a o _ _ h => x.keep a o h, x.up, x.sub, x.new, fun a o h => (by rw [x.keep a o h]; exact fun z => (by cases z)), fun _ _ t => LamX.TabS.ext t x.keep, x.nt⟩
theorem Gd.refl {dr : Option (Addr × Addr)} {H S : Hp} (h : Sub S H) : Gd tb dr H S H S := (Gr.refl h).d
theorem Gd.trans {dr : Option (Addr × Addr)} {H S H1 S1 H2 S2 : Hp} (x : Gd tb dr H S H1 S1) (y : Gd tb dr H1 S1 H2 S2) : Gd tb dr H S H2 S2 := by
  refine ⟨fun a o n t h => y.keep a o n t (x.keep a o n t h), x.up.trans y.up, y.sub, fun a o e => ?_, fun a o h => ?_, fun P q t => y.tab P q (x.tab P q t), fun z => y.nt (x.nt z)⟩
  · rcases y.new a o e with e | e
    · exact x.new a o e
    · right
      cases h : H a with
      | none => rfl
      | some u => exact absurd e (x.dom a u h)
  · cases h1 : H1 a with
    | none => exact absurd h1 (x.dom a o h)
    | some u => exact y.dom a u h1
theorem Gd.tabs {dr : Option (Addr × Addr)} {H S H' S' : Hp} (g : Gd tb dr H S H' S') (t : LamX.Tabs tb H) : LamX.Tabs tb H' := fun p hp => g.tab p hp (t p hp)
def DrOk (dr : Option (Addr × Addr)) (H : Hp) (n : Nat) : Prop := ∀ p cc, dr = some (p, cc) → ∃ m, m + n ≤ 999999000 ∧ Dr H p cc m
theorem DrOk.sub {dr : Option (Addr × Addr)} {H H' : Hp} {n : Nat} (x : DrOk dr H n) (h : Sub H H') : DrOk dr H' n := fun p cc e => by
  obtain ⟨m, hm, d⟩ := x p cc e
  exact ⟨m, hm, d.sub h⟩
theorem Gd.lift {dr : Option (Addr × Addr)} {H S H' S' : Hp} (x : Gd tb none H S H' S') : Gd tb dr H S H' S' := ⟨fun a o _ t h => x.keep a o (fun _ _ e => nomatch e) t h, x.up, x.sub, x.new, x.dom, x.tab, x.nt⟩
theorem DrOk.gd {dr : Option (Addr × Addr)} {H S H' S' : Hp} {n : Nat} (x : DrOk dr H n) (g : Gd tb none H S H' S') : DrOk dr H' n := fun p cc e => by
  obtain ⟨m, hm, ns, a, l, u, e1, e2, r⟩ := x p cc e
  exact ⟨m, hm, ns, a, l, u, g.keep p _ (fun _ _ e => nomatch e) (fun _ z => by cases z) e1, g.keep cc _ (fun _ _ e => nomatch e) (fun _ z => by cases z) e2, r⟩
theorem codeO_ext {c : Addr} {q : Str} : ∃ φ, LamX.CodeO c q = HO.ext φ := ⟨_, rfl⟩
theorem tab_upd {H : Hp} {a P : Addr} {o : HO} {q : Str} (t : LamX.TabS H P q) (h1 : ∀ ps, H a ≠ some (.tbl ps)) (h2 : ∀ c q, H a ≠ some (LamX.CodeO c q)) : LamX.TabS (upd H a o) P q := by
  obtain ⟨ps, e1, e2, e3⟩ := t
  have n : P ≠ a := fun z => h1 ps (by rw [← z]; exact e1)
  refine ⟨ps, by rw [upd_ne n]; exact e1, e2, fun pos cv hc => ?_⟩
  obtain ⟨c, k1, k2⟩ := e3 pos cv hc
  have m : c ≠ a := fun z => h2 c q (by rw [← z]; exact k2)
  exact ⟨c, k1, by rw [upd_ne m]; exact k2⟩
theorem tab_updL {H : Hp} {a P : Addr} {o : HO} {q : Str} {xs : List V} (t : LamX.TabS H P q) (h : H a = some (.lst xs)) : LamX.TabS (upd H a o) P q := tab_upd t (fun ps z => by rw [h] at z; cases z) (fun c q z => by rw [h] at z; cases z)
theorem tab_updD {H : Hp} {a P : Addr} {o : HO} {q : Str} {xs : List (Key × V)} (t : LamX.TabS H P q) (h : H a = some (.dK xs)) : LamX.TabS (upd H a o) P q := tab_upd t (fun ps z => by rw [h] at z; cases z) (fun c q z => by rw [h] at z; cases z)
theorem tab_new {H : Hp} {a P : Addr} {o : HO} {q : Str} (t : LamX.TabS H P q) (h : H a = none) : LamX.TabS (upd H a o) P q := tab_upd t (fun ps z => by rw [h] at z; cases z) (fun c q z => by rw [h] at z; cases z)
/-- a def's own list or dict -/
def OwnAt (c : Ct) (S H : Hp) (a : Addr) (d : Val) : Prop := S a = none ∧ c.H0 a = none ∧ (∀ p cc, c.dr = some (p, cc) → a ≠ p ∧ a ≠ cc) ∧
  ((∃ xs ds, d = .lst ds ∧ H a = some (.lst xs) ∧ DVs c.K c.cl S xs ds) ∨ ∃ kvs ds, d = .dic ds ∧ H a = some (.dK kvs) ∧ DVd c.K c.cl S kvs ds)
abbrev Env := List (Option Val)
structure Rel (c : Ct) (σ : L2.St) (H S : Hp) (η : Env) : Prop where
  g0 : Gd c.tb c.dr c.H0 c.S0 H S
  len : η.length = σ.length
  loc : ∀ i d, η[i]? = some (some d) → i ∉ c.ow → ∃ v, σ[i]? = some (some v) ∧ DV c.K c.cl S v d
  own : ∀ i d, η[i]? = some (some d) → i ∈ c.ow → ∃ a, σ[i]? = some (some (.ref a)) ∧ OwnAt c S H a d
  dis : ∀ i j d e a, i ∈ c.ow → j ∈ c.ow → i ≠ j → η[i]? = some (some d) → η[j]? = some (some e) → σ[i]? = some (some (.ref a)) → σ[j]? ≠ some (some (.ref a))
  drw : ∀ p cc, c.dr = some (p, cc) → S p = none ∧ c.H0 p ≠ none ∧ c.H0 cc ≠ none ∧ cc ≠ p ∧ σ[c.dsl]? = some (some (.ref p))
  nt : NoT S
  tabs : LamX.Tabs c.tb H
theorem Rel.sub {c : Ct} {σ : L2.St} {H S : Hp} {η : Env} (r : Rel c σ H S η) : Sub S H := r.g0.sub
theorem OwnAt.grow {c : Ct} {S H S' H' : Hp} {a : Addr} {d : Val} (g : Gd c.tb c.dr H S H' S') (o : OwnAt c S H a d) : OwnAt c S' H' a d := by
  obtain ⟨h1, h2, h3, h4⟩ := o
  have ha : H' a = H a ∧ S' a = none := by
    have : ∃ o, H a = some o ∧ ∀ ps, o ≠ .tbl ps := by
      rcases h4 with ⟨xs, ds, rfl, h, _⟩ | ⟨xs, ds, rfl, h, _⟩ <;> exact ⟨_, h, fun ps z => by cases z⟩
    obtain ⟨o, ho, ht⟩ := this
    refine ⟨by rw [ho]; exact g.keep a o (fun p cc e => (h3 p cc e).1) ht ho, ?_⟩
    cases e : S' a with
    | none => rfl
    | some u =>
      rcases g.new a u e with z | z
      · rw [h1] at z; cases z
      · rw [ho] at z; cases z
  refine ⟨ha.2, h2, h3, ?_⟩
  rw [ha.1]
  rcases h4 with ⟨xs, ds, rfl, h, x⟩ | ⟨xs, ds, rfl, h, x⟩
  · exact .inl ⟨xs, ds, rfl, h, x.mono g.up⟩
  · exact .inr ⟨xs, ds, rfl, h, x.mono g.up⟩
theorem Rel.grow {c : Ct} {σ : L2.St} {H S H' S' : Hp} {η : Env} (r : Rel c σ H S η) (g : Gd c.tb c.dr H S H' S') : Rel c σ H' S' η := by
  refine ⟨r.g0.trans g, r.len, fun i d e n => ?_, fun i d e n => ?_, r.dis, fun p cc e => ?_, g.nt r.nt, g.tabs r.tabs⟩
  · obtain ⟨v, h1, h2⟩ := r.loc i d e n
    exact ⟨v, h1, h2.mono g.up⟩
  · obtain ⟨a, h1, h2⟩ := r.own i d e n
    exact ⟨a, h1, h2.grow g⟩
  · obtain ⟨h1, h2, h3, h4, h5⟩ := r.drw p cc e
    refine ⟨?_, h2, h3, h4, h5⟩
    cases z : S' p with
    | none => rfl
    | some u =>
      rcases g.new p u z with q | q
      · rw [h1] at q; cases q
      · cases w : c.H0 p with
        | none => exact absurd w h2
        | some o => exact absurd q (r.g0.dom p o w)
/-- a value that may be a list or dict of the def's own -/
def DW (c : Ct) (S H : Hp) (v : V) (d : Val) : Prop := DV c.K c.cl S v d ∨ ∃ a, v = .ref a ∧ OwnAt c S H a d
theorem DW.grow {c : Ct} {S H S' H' : Hp} {v : V} {d : Val} (g : Gd c.tb c.dr H S H' S') (o : DW c S H v d) : DW c S' H' v d := by
  rcases o with h | ⟨a, rfl, h⟩
  · exact .inl (h.mono g.up)
  · exact .inr ⟨a, rfl, h.grow g⟩
theorem DW.lst {c : Ct} {S H : Hp} {v : V} {ds : List Val} (s : Sub S H) (h : DW c S H v (.lst ds)) : ∃ a xs, v = .ref a ∧ SqL c.K H a xs ∧ DVs c.K c.cl S xs ds := by
  rcases h with h | ⟨a, rfl, _, _, _, h⟩
  · cases h with | lst h1 h2 => exact ⟨_, _, rfl, Same.seq s h1, h2⟩
  · rcases h with ⟨xs, _, e, h, x⟩ | ⟨_, _, e, _⟩
    · cases e; exact ⟨a, xs, rfl, SqL.of h, x⟩
    · cases e
theorem DW.tup {c : Ct} {S H : Hp} {v : V} {ds : List Val} (s : Sub S H) (h : DW c S H v (.tup ds)) : ∃ a xs, v = .ref a ∧ SqT c.K H a xs ∧ DVs c.K c.cl S xs ds := by
  rcases h with h | ⟨a, rfl, _, _, _, h⟩
  · cases h with | tup h1 h2 => exact ⟨_, _, rfl, (h1.mono s).sq, h2⟩
  · rcases h with ⟨xs, _, e, h, x⟩ | ⟨_, _, e, _⟩ <;> cases e
theorem DW.dic {c : Ct} {S H : Hp} {v : V} {ds : List (Key × Val)} (s : Sub S H) (h : DW c S H v (.dic ds)) : ∃ a kvs, v = .ref a ∧ H a = some (.dK kvs) ∧ DVd c.K c.cl S kvs ds := by
  rcases h with h | ⟨a, rfl, _, _, _, h⟩
  · cases h with | dic h1 h2 => exact ⟨_, _, rfl, s _ _ h1, h2⟩
  · rcases h with ⟨xs, _, e, h, x⟩ | ⟨_, _, e, h, x⟩
    · cases e
    · cases e; exact ⟨a, _, rfl, h, x⟩
theorem DW.int {c : Ct} {S H : Hp} {v : V} {i : Int} (h : DW c S H v (.int i)) : v = .int i := by
  rcases h with h | ⟨a, rfl, _, _, _, h⟩
  · cases h; rfl
  · rcases h with ⟨xs, _, e, h, x⟩ | ⟨_, _, e, _⟩ <;> cases e
theorem DW.str {c : Ct} {S H : Hp} {v : V} {i : Str} (h : DW c S H v (.str i)) : v = .str i := by
  rcases h with h | ⟨a, rfl, _, _, _, h⟩
  · cases h; rfl
  · rcases h with ⟨xs, _, e, h, x⟩ | ⟨_, _, e, _⟩ <;> cases e
theorem DW.bl {c : Ct} {S H : Hp} {v : V} {i : Bool} (h : DW c S H v (.bl i)) : v = .bl i := by
  rcases h with h | ⟨a, rfl, _, _, _, h⟩
  · cases h; rfl
  · rcases h with ⟨xs, _, e, h, x⟩ | ⟨_, _, e, _⟩ <;> cases e
theorem DW.non {c : Ct} {S H : Hp} {v : V} (h : DW c S H v .non) : v = .non := by
  rcases h with h | ⟨a, rfl, _, _, _, h⟩
  · cases h; rfl
  · rcases h with ⟨xs, _, e, h, x⟩ | ⟨_, _, e, _⟩ <;> cases e

/-! ### readings -/
abbrev Ev := Env → T Val
abbrev EvL := Env → T (List Val)
/-- an error on its way -/
def Thrown (c : Ct) (E : XK) (e : Err) (H S : Hp) (n : Nat) : Prop := ∀ (C dx : Addr) (v : V) (H' S' : Hp), Gd c.tb c.dr H S H' S' → DrOk c.dr H' n → c.cl e.C = some C → H' dx = some (.xd [(e.f, v)]) → H dx = none → DV c.K c.cl S' v e.x → E (.ref C) (some dx) H'
/-- f's reading: a shared value; P: what is said of the value -/
def tX (c : Ct) (E : L2.St → XK) (f : Ev) (P : Hp → Hp → V → Val → Prop) : TE := fun σ H Q => ∃ (η : Env) (S : Hp) (n : Nat), Rel c σ H S η ∧ DrOk c.dr H n ∧
  All (f η) n (fun d m => ∀ v H' S', Gd c.tb c.dr H S H' S' → DrOk c.dr H' m → P H' S' v d → Q v H') (fun e m => Thrown c (E σ) e H S m)
def tE (c : Ct) (E : L2.St → XK) (f : Ev) : TE := tX c E f fun _ S v d => DV c.K c.cl S v d
def tW (c : Ct) (E : L2.St → XK) (f : Ev) : TE := tX c E f fun H S v d => DW c S H v d
/-- a new list or dict -/
def tN (c : Ct) (E : L2.St → XK) (f : Ev) : TE := fun σ H Q => ∃ (η : Env) (S : Hp) (n : Nat), Rel c σ H S η ∧ DrOk c.dr H n ∧
  All (f η) n (fun d m => ∀ a H' S', Gd c.tb c.dr H S H' S' → DrOk c.dr H' m → H a = none → OwnAt c S' H' a d → Q (.ref a) H') (fun e m => Thrown c (E σ) e H S m)
def tA (c : Ct) (E : L2.St → XK) (f : EvL) : TA := fun σ H Q => ∃ (η : Env) (S : Hp) (n : Nat), Rel c σ H S η ∧ DrOk c.dr H n ∧
  All (f η) n (fun ds m => ∀ vs H' S', Gd c.tb c.dr H S H' S' → DrOk c.dr H' m → DVs c.K c.cl S' vs ds → Q vs H') (fun e m => Thrown c (E σ) e H S m)
inductive DWs (c : Ct) (S H : Hp) : List V → List Val → Prop
  | nil : DWs c S H [] []
  | cons {v : V} {vs : List V} {d : Val} {ds : List Val} : DW c S H v d → DWs c S H vs ds → DWs c S H (v :: vs) (d :: ds)
/-- arguments that may be own lists or dicts -/
def tAW (c : Ct) (E : L2.St → XK) (f : EvL) : TA := fun σ H Q => ∃ (η : Env) (S : Hp) (n : Nat), Rel c σ H S η ∧ DrOk c.dr H n ∧
  All (f η) n (fun ds m => ∀ vs H' S', Gd c.tb c.dr H S H' S' → DrOk c.dr H' m → DWs c S' H' vs ds → Q vs H') (fun e m => Thrown c (E σ) e H S m)
def tT (c : Ct) (E : L2.St → XK) (f : Env → T Bool) : TT := fun σ H Q => ∃ (η : Env) (S : Hp) (n : Nat), Rel c σ H S η ∧ DrOk c.dr H n ∧
  All (f η) n (fun b m => ∀ H' S', Gd c.tb c.dr H S H' S' → DrOk c.dr H' m → Q b H') (fun e m => Thrown c (E σ) e H S m)
theorem Thrown.after {c : Ct} {E : XK} {e : Err} {H S H1 S1 : Hp} {n : Nat} (x : Thrown c E e H S n) (g : Gd c.tb c.dr H S H1 S1) : Thrown c E e H1 S1 n := fun C dx v H' S' g' d hc hx hn hv =>
  x C dx v H' S' (g.trans g') d hc hx (by
    cases z : H dx with
    | none => rfl
    | some o => exact absurd hn (g.dom dx o z)) hv
theorem pe_imp {X : Cx} {e : PySem.Expr} {t t' : TE} (h : PE X e t) (k : ∀ σ H Q, t' σ H Q → t σ H Q) : PE X e t' := ⟨fun pins s σ H Q I q => h.run pins s σ H Q I (k σ H Q q)⟩
theorem pa_imp {X : Cx} {e : List PySem.Expr} {t t' : TA} (h : PA X e t) (k : ∀ σ H Q, t' σ H Q → t σ H Q) : PA X e t' := ⟨fun pos pins s σ H Q I q => h.run pos pins s σ H Q I (k σ H Q q)⟩
theorem pt_imp {X : Cx} {e : PySem.Expr} {t t' : TT} (h : PT X e t) (k : ∀ σ H Q, t' σ H Q → t σ H Q) : PT X e t' := ⟨fun pins s σ H Q I q => h.run pins s σ H Q I (k σ H Q q)⟩
theorem pw_imp {X : Cx} {e : PySem.Expr} {t t' : TT} (h : PW X e t) (k : ∀ σ H Q, t' σ H Q → t σ H Q) : PW X e t' := ⟨fun w pins s σ H Q I q => h.run w pins s σ H Q I (k σ H Q q)⟩
theorem ps_imp {X : Cx} {e : Stmt} {t t' : TS} (h : PS X e t) (k : ∀ D σ H, t' D σ H → t D σ H) : PS X e t' := ⟨fun pins s σ H D I q => h.run pins s σ H D I (k D σ H q)⟩
theorem pss_imp {X : Cx} {e : List Stmt} {t t' : TS} (h : PSs X e t) (k : ∀ D σ H, t' D σ H → t D σ H) : PSs X e t' := ⟨fun pins s σ H D I q => h.run pins s σ H D I (k D σ H q)⟩
section
variable {X : Cx} {c : Ct} {E : L2.St → XK} {e : PySem.Expr} {es : List PySem.Expr} {f g : Ev} {fs : EvL}
/-- a shared value is a value -/
theorem d_w (h : PE X e (tE c E f)) : PE X e (tW c E f) := pe_imp h fun σ H Q ⟨η, S, n, r, d, a⟩ => ⟨η, S, n, r, d, all_mono a (fun _ _ k v H' S' g d x => k v H' S' g d (.inl x)) fun _ _ x => x⟩
theorem d_v {i : Nat} {x : Str} {pos : Pos} (hi : i ∉ c.ow) (h : PE X (.Name x pos) (tVar i)) : PE X (.Name x pos) (tE c E fun η => ofO (η[i]?.join)) := pe_imp h fun σ H Q ⟨η, S, n, r, d, a⟩ => by
  obtain ⟨d1, e1, k⟩ := all_ofO.mp a
  have e2 : η[i]? = some (some d1) := by
    cases z : η[i]? with
    | none => rw [z] at e1; cases e1
    | some o => rw [z] at e1; cases o with
      | none => cases e1
      | some w => cases e1; rfl
  obtain ⟨v, h1, h2⟩ := r.loc i d1 e2 hi
  exact ⟨v, h1, k v H S (Gd.refl r.sub) d h2⟩
theorem d_o {i : Nat} {x : Str} {pos : Pos} (hi : i ∈ c.ow) (h : PE X (.Name x pos) (tVar i)) : PE X (.Name x pos) (tW c E fun η => ofO (η[i]?.join)) := pe_imp h fun σ H Q ⟨η, S, n, r, d, a⟩ => by
  obtain ⟨d1, e1, k⟩ := all_ofO.mp a
  have e2 : η[i]? = some (some d1) := by
    cases z : η[i]? with
    | none => rw [z] at e1; cases e1
    | some o => rw [z] at e1; cases o with
      | none => cases e1
      | some w => cases e1; rfl
  obtain ⟨v, h1, h2⟩ := r.own i d1 e2 hi
  exact ⟨_, h1, k _ H S (Gd.refl r.sub) d (.inr ⟨v, rfl, h2⟩)⟩
theorem d_c {v : V} {d : Val} (hv : ∀ S, DV c.K c.cl S v d) (h : PE X e (tC v)) : PE X e (tE c E fun _ => .ret d) := pe_imp h fun σ H Q ⟨η, S, n, r, d, a⟩ => a v H S (Gd.refl r.sub) d (hv S)
/-- two in a row -/
theorem seq2 {P1 P2 : Hp → Hp → V → Val → Prop} {σ : L2.St} {H : Hp} {Rr : V → V → Hp → Prop} {η : Env} {S : Hp} {n : Nat} (r : Rel c σ H S η) (d : DrOk c.dr H n) (st : ∀ H S H' S' v d, Gd c.tb c.dr H S H' S' → P1 H S v d → P1 H' S' v d)
    (a : All (f η) n (fun d1 m => All (g η) m (fun d2 k => ∀ x y H' S', Gd c.tb c.dr H S H' S' → DrOk c.dr H' k → P1 H' S' x d1 → P2 H' S' y d2 → Rr x y H') (fun e m => Thrown c (E σ) e H S m)) (fun e m => Thrown c (E σ) e H S m)) :
    tX c E f P1 σ H fun x H1 => tX c E g P2 σ H1 fun y H2 => Rr x y H2 := by
  refine ⟨η, S, n, r, d, all_mono a (fun d1 m a1 v H1 S1 g1 dr1 h1 => ⟨η, S1, m, r.grow g1, dr1, all_mono a1 (fun d2 k q y H2 S2 g2 dr2 h2 => q v y H2 S2 (g1.trans g2) dr2 (st _ _ _ _ _ _ g2 h1) h2) fun _ _ t => t.after g1⟩) fun _ _ t => t⟩
end
end EV
end
section
set_option Elab.async false
set_option linter.all false
set_option maxRecDepth 100000
set_option maxHeartbeats 4000000
/-! Operators on values. -/
namespace EV
open PySem PySem.Spec PyProof.Rows L2 XK
/-! ### values as data -/
mutual
def toD : Val → PyData
  | .non => .none
  | .bl b => .bool b
  | .int i => .int i
  | .str z => .str z
  | .tup xs => .tuple (toDs xs)
  | .lst xs => .list (toDs xs)
  | .dic _ => .dict []
  | .fn _ => .none
  | .exc _ _ _ => .none
def toDs : List Val → List PyData
  | [] => []
  | x :: xs => toD x :: toDs xs
end
mutual
def plain : Val → Bool
  | .non => true
  | .bl _ => true
  | .int _ => true
  | .str _ => true
  | .tup xs => plains xs
  | .lst xs => plains xs
  | .dic _ => false
  | .fn _ => false
  | .exc _ _ _ => false
def plains : List Val → Bool
  | [] => true
  | x :: xs => plain x && plains xs
end
mutual
/-- no error within; a dict only if it is empty -/
def plainZ : Val → Bool
  | .non => true
  | .bl _ => true
  | .int _ => true
  | .str _ => true
  | .tup xs => plainZs xs
  | .lst xs => plainZs xs
  | .dic kvs => kvs.isEmpty
  | .fn _ => false
  | .exc _ _ _ => false
def plainZs : List Val → Bool
  | [] => true
  | x :: xs => plainZ x && plainZs xs
end
mutual
theorem plain_d : ∀ {d : Val}, plain d = true → (toD d).plain = true
  | .non, _ => rfl
  | .bl _, _ => rfl
  | .int _, _ => rfl
  | .str _, _ => rfl
  | .tup xs, h => plain_ds (xs := xs) h
  | .lst xs, h => plain_ds (xs := xs) h
  | .dic _, h => by cases h
  | .fn _, h => by cases h
  | .exc _ _ _, h => by cases h
theorem plain_ds : ∀ {xs : List Val}, plains xs = true → PyData.plainAll (toDs xs) = true
  | [], _ => rfl
  | x :: xs, h => by
    have h' : plain x = true ∧ plains xs = true := by simpa [plains] using h
    show ((toD x).plain && PyData.plainAll (toDs xs)) = true
    rw [plain_d h'.1, plain_ds h'.2]; rfl
end
section
variable {K : PySem.W.Frag} {cl : Str → Option Addr} {S : Hp}
mutual
theorem DV.dz : ∀ {v : V} {d : Val}, DV K cl S v d → plainZ d = true → Dz K S v (toD d)
  | _, _, .non, _ => .non
  | _, _, .bl b, _ => .bl b
  | _, _, .int i, _ => .int i
  | _, _, .str z, _ => .str z
  | _, _, .tup h a, p => .tup h.sq (DVs.dz a p)
  | _, _, .lst h a, p => .lst h (DVs.dz a p)
  | _, .dic ds, .dic h a, p => by
    cases ds with
    | nil => cases a; exact .dic h
    | cons x r => cases p
  | _, _, .fn _, p => by cases p
  | _, _, .exc _ _ _ _, p => by cases p
theorem DVs.dz : ∀ {v : List V} {d : List Val}, DVs K cl S v d → plainZs d = true → DzA K S v (toDs d)
  | _, _, .nil, _ => .nil
  | _, _, .cons (d := d) (ds := ds) a b, p => by
    have h' : plainZ d = true ∧ plainZs ds = true := by simpa [plainZs] using p
    exact .cons (DV.dz a h'.1) (DVs.dz b h'.2)
end
end
mutual
theorem plain_z : ∀ {d : Val}, plain d = true → plainZ d = true
  | .non, _ => rfl
  | .bl _, _ => rfl
  | .int _, _ => rfl
  | .str _, _ => rfl
  | .tup xs, h => plains_z (xs := xs) h
  | .lst xs, h => plains_z (xs := xs) h
  | .dic _, h => by cases h
  | .fn _, h => by cases h
  | .exc _ _ _, h => by cases h
theorem plains_z : ∀ {xs : List Val}, plains xs = true → plainZs xs = true
  | [], _ => rfl
  | x :: xs, h => by
    have h' : plain x = true ∧ plains xs = true := by simpa [plains] using h
    show (plainZ x && plainZs xs) = true
    rw [plain_z h'.1, plains_z h'.2]; rfl
end
theorem Dz.sub {K : PySem.W.Frag} {H H' : Hp} (e : Sub H H') {v : V} {d : PyData} (h : Dz K H v d) : Dz K H' v d := Dz.same e h
theorem DzA.sub {K : PySem.W.Frag} {H H' : Hp} (e : Sub H H') {v : List V} {d : List PyData} (h : DzA K H v d) : DzA K H' v d := DzA.same e h
theorem DW.dz {c : Ct} {S H : Hp} {v : V} {d : Val} (s : Sub S H) (h : DW c S H v d) (p : plainZ d = true) : Dz c.K H v (toD d) := by
  rcases h with h | ⟨a, rfl, _, _, _, h⟩
  · exact Dz.same s (h.dz p)
  · rcases h with ⟨xs, ds, rfl, h, x⟩ | ⟨kvs, ds, rfl, h, x⟩
    · exact .lst (SqL.of h) (DzA.same s (x.dz p))
    · cases ds with
      | nil => cases x; exact .dic h
      | cons x r => cases p
/-! ### two-place operators -/
def eBin (g : Val → Val → Option Val) (fa fb : Ev) : Ev := fun η => (fa η).bind fun x => (fb η).bind fun y => ofO (g x y)
def Sem2 (c : Ct) (r : R2) (g : Val → Val → Option Val) : Prop := ∀ (x y : V) (H S : Hp) (d e o : Val) (Q : VK), Sub S H → DW c S H x d → DW c S H y e → g d e = some o → (∀ v H' S', Gr H S H' S' → DV c.K c.cl S' v o → Q v H') → r x y H Q
section
variable {X : Cx} {c : Ct} {E : L2.St → XK} {a b : PySem.Expr} {fa fb fc : Ev} {pos : Pos} {r r' : R2} {g g' : Val → Val → Option Val}
theorem bin_read (hs : Sem2 c r g) {σ : L2.St} {H : Hp} {Q : VK} (h : tE c E (eBin g fa fb) σ H Q) : tOp r (tW c E fa) (tW c E fb) σ H Q := by
  obtain ⟨η, S, n, rl, dr, al⟩ := h
  refine seq2 rl dr (fun _ _ _ _ _ _ g h => h.grow g) (all_mono (all_bind.mp al) (fun d1 m q => all_mono (all_bind.mp q) (fun d2 k q x y H' S' g hd hx hy => ?_) fun _ _ t => t) fun _ _ t => t)
  obtain ⟨o, e, q⟩ := all_ofO.mp q
  exact hs x y H' S' d1 d2 o Q (rl.grow g).sub hx hy e fun v H2 S2 g2 hv => q v H2 S2 (g.trans g2.d) (hd.sub g2.keep) hv
theorem d_bin {op : Operator} (ho : OpR X (binaryOp op) r) (hs : Sem2 c r g) (ha : PE X a (tW c E fa)) (hb : PE X b (tW c E fb)) : PE X (.BinOp a op b pos) (tE c E (eBin g fa fb)) :=
  pe_imp (pe_op ho ha hb) fun _ _ _ h => bin_read hs h
theorem d_cmp {op : CmpOp} (ho : OpR X (compareOp op) r) (hs : Sem2 c r g) (ha : PE X a (tW c E fa)) (hb : PE X b (tW c E fb)) (hm : behindInMarks op b = false) : PE X (.Compare a [op] [b] pos) (tE c E (eBin g fa fb)) :=
  pe_imp (pe_cmpR ho ha hb hm) fun _ _ _ h => bin_read hs h
theorem d_ixR (ho : IxR X r) (hs : Sem2 c r g) (ha : PE X a (tW c E fa)) (hb : PE X b (tW c E fb)) (hp : PlainIx b) : PE X (.Subscript a b pos) (tE c E (eBin g fa fb)) :=
  pe_imp (pe_ix ho ha hb hp) fun _ _ _ h => bin_read hs h
end
theorem Sem2.or {c : Ct} {r r' : R2} {g g' : Val → Val → Option Val} (h : Sem2 c r g) (h' : Sem2 c r' g') : Sem2 c (fun x y H Q => r x y H Q ∨ r' x y H Q) (fun d e => match g d e with | some o => some o | none => g' d e) := by
  intro x y H S d e o Q s hx hy hg q
  cases z : g d e with
  | some w => simp only [z] at hg; cases hg; exact .inl (h x y H S d e o Q s hx hy z q)
  | none => simp only [z] at hg; exact .inr (h' x y H S d e o Q s hx hy hg q)
/-! the lemmas of one kind of values -/
section
variable {c : Ct}
theorem sem_ii {f : Int → Int → V} {gi : Int → Int → Val} (hv : ∀ i j S, DV c.K c.cl S (f i j) (gi i j)) : Sem2 c (rI0 f) (fun d e => match d, e with | .int i, .int j => some (gi i j) | _, _ => none) := by
  intro x y H S d e o Q s hx hy hg q
  cases d <;> try cases hg
  cases e <;> try cases hg
  rename_i i j
  exact ⟨i, j, hx.int, hy.int, q _ H S (Gr.refl s) (hv i j S)⟩
theorem sem_iiC {C : Int → Int → Prop} {f : Int → Int → V} {gi : Int → Int → Val} {ok : Int → Int → Bool} (hc : ∀ i j, ok i j = true → C i j) (hv : ∀ i j S, DV c.K c.cl S (f i j) (gi i j)) :
    Sem2 c (rI C f) (fun d e => match d, e with | .int i, .int j => if ok i j = true then some (gi i j) else none | _, _ => none) := by
  intro x y H S d e o Q s hx hy hg q
  cases d <;> try cases hg
  cases e <;> try cases hg
  rename_i i j
  by_cases h : ok i j = true
  · have hg' : (if ok i j = true then some (gi i j) else none) = some o := hg
    rw [if_pos h] at hg'
    cases hg'
    exact ⟨i, j, hx.int, hy.int, hc i j h, q _ H S (Gr.refl s) (hv i j S)⟩
  · have hg' : (if ok i j = true then some (gi i j) else none) = some o := hg
    rw [if_neg h] at hg'
    cases hg'
theorem sem_ss {f : Str → Str → V} {gi : Str → Str → Val} (hv : ∀ i j S, DV c.K c.cl S (f i j) (gi i j)) : Sem2 c (fun x y H Q => ∃ i j, x = .str i ∧ y = .str j ∧ Q (f i j) H) (fun d e => match d, e with | .str i, .str j => some (gi i j) | _, _ => none) := by
  intro x y H S d e o Q s hx hy hg q
  cases d <;> try cases hg
  cases e <;> try cases hg
  rename_i i j
  exact ⟨i, j, hx.str, hy.str, q _ H S (Gr.refl s) (hv i j S)⟩
def vAddS : Val → Val → Option Val
  | .str a, .str b => if a.length + b.length ≤ 1000000 then some (.str (a ++ b)) else none
  | _, _ => none
theorem sem_addS : Sem2 c (fun x y H Q => ∃ i j, x = .str i ∧ y = .str j ∧ i.length + j.length ≤ sizeLine ∧ Q (.str (i ++ j)) H) vAddS := by
  intro x y H S d e o Q s hx hy hg q
  unfold vAddS at hg
  split at hg
  · rename_i i j
    split at hg
    · rename_i h
      cases hg
      exact ⟨i, j, hx.str, hy.str, by rw [sizeLine_eq]; omega, q _ H S (Gr.refl s) (.str _)⟩
    · cases hg
  · cases hg
theorem small6 {n : Nat} (h : n ≤ 1000000) : n ≤ sizeLine := by rw [sizeLine_eq]; omega
theorem DV.newL {S : Hp} {p : Addr} {xs : List V} {ds : List Val} (n : S p = none) (h : DVs c.K c.cl S xs ds) : DV c.K c.cl (upd S p (.lst xs)) (.ref p) (.lst ds) := .lst (SqL.of upd_same) (h.mono (Sub.new n))
theorem DV.newT {S : Hp} {p : Addr} {o : Obj} {xs : List V} {ds : List Val} (n : S p = none) (ho : o.dict = none) (h : DVs c.K c.cl S xs ds) : DV c.K c.cl (upd S p (.frz o (.tup xs))) (.ref p) (.tup ds) := .tup ⟨o, ho, upd_same⟩ (h.mono (Sub.new n))
def vAddT : Val → Val → Option Val
  | .tup a, .tup b => if a.length + b.length ≤ 1000000 then some (.tup (a ++ b)) else none
  | _, _ => none
theorem sem_addT : Sem2 c (rCatP c.K) vAddT := by
  intro x y H S d e o Q s hx hy hg q
  unfold vAddT at hg
  split at hg
  · rename_i i j
    split at hg
    · rename_i h
      cases hg
      obtain ⟨a, xs, rfl, ha, da⟩ := hx.tup s
      obtain ⟨b, ys, rfl, hb, db⟩ := hy.tup s
      have l1 := da.len
      have l2 := db.len
      refine ⟨a, b, xs, ys, rfl, rfl, ha, hb, small6 (by omega), fun z => ?_, fun z1 z => ?_, fun z1 z2 p ob hp ho => ?_⟩
      · subst z
        cases da
        rcases hy with hy | ⟨_, _, _, _, _, ⟨_, _, e, _⟩ | ⟨_, _, e, _⟩⟩
        · exact q _ H S (Gr.refl s) hy
        · cases e
        · cases e
      · subst z
        cases db
        rw [List.append_nil] at q
        rcases hx with hx | ⟨_, _, _, _, _, ⟨_, _, e, _⟩ | ⟨_, _, e, _⟩⟩
        · exact q _ H S (Gr.refl s) hx
        · cases e
        · cases e
      · exact q _ _ _ (Gr.alloc s hp) (DV.newT (s.free hp) ho (da.append db))
    · cases hg
  · cases hg
def vAddL : Val → Val → Option Val
  | .lst a, .lst b => if a.length + b.length ≤ 1000000 then some (.lst (a ++ b)) else none
  | _, _ => none
theorem sem_addL : Sem2 c (rCatL c.K) vAddL := by
  intro x y H S d e o Q s hx hy hg q
  unfold vAddL at hg
  split at hg
  · rename_i i j
    split at hg
    · rename_i h
      cases hg
      obtain ⟨a, xs, rfl, ha, da⟩ := hx.lst s
      obtain ⟨b, ys, rfl, hb, db⟩ := hy.lst s
      have l1 := da.len
      have l2 := db.len
      exact ⟨a, b, xs, ys, rfl, rfl, ha, hb, small6 (by omega), fun p hp => q _ _ _ (Gr.alloc s hp) (DV.newL (s.free hp) (da.append db))⟩
    · cases hg
  · cases hg
end
/-- + of ints, texts, tuples, lists -/
def vAdd : Val → Val → Option Val
  | .int i, .int j => some (.int (i + j))
  | .str a, .str b => if a.length + b.length ≤ 1000000 then some (.str (a ++ b)) else none
  | .tup a, .tup b => if a.length + b.length ≤ 1000000 then some (.tup (a ++ b)) else none
  | .lst a, .lst b => if a.length + b.length ≤ 1000000 then some (.lst (a ++ b)) else none
  | _, _ => none
theorem Sem2.congr {c : Ct} {r : R2} {g g' : Val → Val → Option Val} (h : Sem2 c r g) (e : ∀ d e, g' d e = g d e) : Sem2 c r g' := fun x y H S d e' o Q s hx hy hg q => h x y H S d e' o Q s hx hy ((e d e').symm.trans hg) q
section
variable {X : Cx} {c : Ct} {E : L2.St → XK} {a b : PySem.Expr} {fa fb fc : Ev} {pos : Pos}
theorem d_add (hK : X.K = c.K) (ha : PE X a (tW c E fa)) (hb : PE X b (tW c E fb)) : PE X (.BinOp a .Add b pos) (tE c E (eBin vAdd fa fb)) :=
  d_bin (OpR.or op_add (OpR.or op_add_str (OpR.or op_catP op_catL))) ((Sem2.or (sem_ii (gi := fun i j => .int (i + j)) fun _ _ _ => .int _) (Sem2.or sem_addS (Sem2.or (by rw [hK]; exact sem_addT) (by rw [hK]; exact sem_addL)))).congr fun d e => by
    cases d <;> cases e <;> simp only [vAdd, vAddS, vAddT, vAddL] <;> split <;> simp_all) ha hb
def vSub : Val → Val → Option Val := fun d e => match d, e with | .int i, .int j => some (.int (i - j)) | _, _ => none
theorem d_sub (ha : PE X a (tW c E fa)) (hb : PE X b (tW c E fb)) : PE X (.BinOp a .Sub b pos) (tE c E (eBin vSub fa fb)) := d_bin op_sub (sem_ii (gi := fun i j => .int (i - j)) fun _ _ _ => .int _) ha hb
def okMul (i j : Int) : Bool := (decide (-(2 ^ 64) < i) && decide (i < 2 ^ 64)) || (decide (-(2 ^ 64) < j) && decide (j < 2 ^ 64))
/-- an int or a text or a list or a tuple times an int -/
def vMul : Val → Val → Option Val
  | .int i, .int j => if okMul i j = true then some (.int (i * j)) else none
  | .str z, .int k => if 0 ≤ k ∧ k ≤ 1000 ∧ z.length ≤ 1000 then some (.str (repS k.toNat z)) else none
  | .lst z, .int k => if 0 ≤ k ∧ k ≤ 1000 ∧ z.length ≤ 1000 then some (.lst (List.replicate k.toNat z).flatten) else none
  | .tup z, .int k => if 2 ≤ k ∧ k ≤ 1000 ∧ z.length ≤ 1000 ∧ z ≠ [] then some (.tup (List.replicate k.toNat z).flatten) else none
  | _, _ => none
def vMulS : Val → Val → Option Val
  | .str z, .int k => if 0 ≤ k ∧ k ≤ 1000 ∧ z.length ≤ 1000 then some (.str (repS k.toNat z)) else none
  | _, _ => none
def vMulL : Val → Val → Option Val
  | .lst z, .int k => if 0 ≤ k ∧ k ≤ 1000 ∧ z.length ≤ 1000 then some (.lst (List.replicate k.toNat z).flatten) else none
  | _, _ => none
def vMulT : Val → Val → Option Val
  | .tup z, .int k => if 2 ≤ k ∧ k ≤ 1000 ∧ z.length ≤ 1000 ∧ z ≠ [] then some (.tup (List.replicate k.toNat z).flatten) else none
  | _, _ => none
theorem DVs.rep {K : PySem.W.Frag} {cl : Str → Option Addr} {S : Hp} {xs : List V} {ds : List Val} (h : DVs K cl S xs ds) : ∀ k : Nat, DVs K cl S (List.replicate k xs).flatten (List.replicate k ds).flatten
  | 0 => .nil
  | k + 1 => by
    rw [List.replicate_succ, List.replicate_succ, List.flatten_cons, List.flatten_cons]
    exact h.append (DVs.rep h k)
theorem sem_mulS : Sem2 c rMulS vMulS := by
  intro x y H S d e o Q s hx hy hg q
  unfold vMulS at hg
  split at hg
  · rename_i z k
    split at hg
    · rename_i h
      cases hg
      exact ⟨z, k, hx.str, hy.int, h.1, h.2.1, h.2.2, q _ H S (Gr.refl s) (.str _)⟩
    · cases hg
  · cases hg
def okMod (_ j : Int) : Bool := decide (0 < j)
def vMod : Val → Val → Option Val := fun d e => match d, e with | .int i, .int j => if okMod i j = true then some (.int (i % j)) else none | _, _ => none
theorem d_mod (ha : PE X a (tW c E fa)) (hb : PE X b (tW c E fb)) : PE X (.BinOp a .Mod b pos) (tE c E (eBin vMod fa fb)) := d_bin op_mod (sem_iiC (gi := fun i j => .int (i % j)) (fun _ _ h => of_decide_eq_true h) fun _ _ _ => .int _) ha hb
def okDiv (_ j : Int) : Bool := decide (0 < j) && decide (j < 1073741824)
def vDiv : Val → Val → Option Val := fun d e => match d, e with | .int i, .int j => if okDiv i j = true then some (.int (i / j)) else none | _, _ => none
theorem d_div (ha : PE X a (tW c E fa)) (hb : PE X b (tW c E fb)) : PE X (.BinOp a .FloorDiv b pos) (tE c E (eBin vDiv fa fb)) := d_bin op_fdiv (sem_iiC (gi := fun i j => .int (i / j)) (fun _ _ h => by
  have h' := (Bool.and_eq_true _ _).mp h
  exact ⟨of_decide_eq_true h'.1, of_decide_eq_true h'.2⟩) fun _ _ _ => .int _) ha hb
/-! ### comparisons -/
def vLt : Val → Val → Option Val
  | .int i, .int j => some (.bl (decide (i < j)))
  | .str a, .str b => some (.bl (decide (a.cps.toList < b.cps.toList)))
  | _, _ => none
def vLe : Val → Val → Option Val
  | .int i, .int j => some (.bl (decide (i ≤ j)))
  | .str a, .str b => some (.bl (!decide (b.cps.toList < a.cps.toList)))
  | _, _ => none
def vGt : Val → Val → Option Val
  | .int i, .int j => some (.bl (decide (j < i)))
  | .str a, .str b => some (.bl (decide (b.cps.toList < a.cps.toList)))
  | _, _ => none
def vGe : Val → Val → Option Val
  | .int i, .int j => some (.bl (decide (j ≤ i)))
  | .str a, .str b => some (.bl (!decide (a.cps.toList < b.cps.toList)))
  | _, _ => none
def rLtA : R2 := fun x y H Q => rI0 (fun i j => .bl (decide (i < j))) x y H Q ∨ ∃ i j, x = .str i ∧ y = .str j ∧ Q (.bl (decide (i.cps.toList < j.cps.toList))) H
def rLeA : R2 := fun x y H Q => rI0 (fun i j => .bl (decide (i ≤ j))) x y H Q ∨ ∃ i j, x = .str i ∧ y = .str j ∧ Q (.bl (!decide (j.cps.toList < i.cps.toList))) H
def rGtA : R2 := fun x y H Q => rI0 (fun i j => .bl (decide (j < i))) x y H Q ∨ ∃ i j, x = .str i ∧ y = .str j ∧ Q (.bl (decide (j.cps.toList < i.cps.toList))) H
def rGeA : R2 := fun x y H Q => rI0 (fun i j => .bl (decide (j ≤ i))) x y H Q ∨ ∃ i j, x = .str i ∧ y = .str j ∧ Q (.bl (!decide (i.cps.toList < j.cps.toList))) H
theorem op_ltA : OpR X (compareOp .Lt) rLtA := OpR.or op_lt op_lt_str
theorem op_leA : OpR X (compareOp .LtE) rLeA := OpR.or op_le op_le_str
theorem op_gtA : OpR X (compareOp .Gt) rGtA := OpR.or op_gt op_gt_str
theorem op_geA : OpR X (compareOp .GtE) rGeA := OpR.or op_ge op_ge_str
theorem sem_lt : Sem2 c rLtA vLt := ((sem_ii (gi := fun i j => .bl (decide (i < j))) fun _ _ _ => .bl _).or (sem_ss (gi := fun i j => .bl (decide (i.cps.toList < j.cps.toList))) fun _ _ _ => .bl _)).congr fun d e => by cases d <;> cases e <;> rfl
theorem sem_le : Sem2 c rLeA vLe := ((sem_ii (gi := fun i j => .bl (decide (i ≤ j))) fun _ _ _ => .bl _).or (sem_ss (gi := fun i j => .bl (!decide (j.cps.toList < i.cps.toList))) fun _ _ _ => .bl _)).congr fun d e => by cases d <;> cases e <;> rfl
theorem sem_gt : Sem2 c rGtA vGt := ((sem_ii (gi := fun i j => .bl (decide (j < i))) fun _ _ _ => .bl _).or (sem_ss (gi := fun i j => .bl (decide (j.cps.toList < i.cps.toList))) fun _ _ _ => .bl _)).congr fun d e => by cases d <;> cases e <;> rfl
theorem sem_ge : Sem2 c rGeA vGe := ((sem_ii (gi := fun i j => .bl (decide (j ≤ i))) fun _ _ _ => .bl _).or (sem_ss (gi := fun i j => .bl (!decide (i.cps.toList < j.cps.toList))) fun _ _ _ => .bl _)).congr fun d e => by cases d <;> cases e <;> rfl
/-- == of data -/
def vEqB (d e : Val) : Option Bool :=
  if plain d && plain e && decide ((toD d).depth ≤ 60) then some (PyData.eqv (toD d) (toD e)) else
    match d, e with
    | .str _, .dic [] => some false
    | _, _ => none
def vEq (d e : Val) : Option Val := (vEqB d e).map .bl
def vNe (d e : Val) : Option Val := (vEqB d e).map fun b => .bl (!b)
end
end EV
end
section
set_option Elab.async false
set_option linter.all false
set_option maxRecDepth 100000
set_option maxHeartbeats 4000000
/-! Equality, membership, subscripts, tests, displays, calls of built-ins. -/
namespace EV
open PySem PySem.Spec PyProof.Rows L2 XK
/-! ### == -/
def rEqP (K : PySem.W.Frag) : R2 := fun x y H Q => (∃ d e, Dz K H x d ∧ Dz K H y e ∧ d.plain = true ∧ e.plain = true ∧ d.depth ≤ 60 ∧ Q (.bl (PyData.eqv d e)) H) ∨ ∃ z, x = .str z ∧ Dz K H y (.dict []) ∧ SeqAt.shaped (.str z) = true ∧ Q (.bl false) H
def rNeP (K : PySem.W.Frag) : R2 := fun x y H Q => ∃ d e, Dz K H x d ∧ Dz K H y e ∧ d.plain = true ∧ e.plain = true ∧ d.depth ≤ 60 ∧ Q (.bl (!PyData.eqv d e)) H
section
variable {X : Cx} {c : Ct} {E : L2.St → XK} {a b : PySem.Expr} {fa fb fc : Ev} {pos : Pos}
theorem op_eqP (hu : X.A.units + 64 < cLine) : OpR X (compareOp .Eq) (rEqP X.K) := by
  intro pins s σ H x y v u Q I rx ry h
  rcases h with ⟨d, e, hd, he, pd, pe, hl, q⟩ | ⟨z, rfl, hd, hz, q⟩
  · obtain ⟨as, r1⟩ := Dz.reads I d x v hd rx
    obtain ⟨bs, r2⟩ := Dz.reads I e y u he ry
    exact SeqAt.eq_plain r1 r2 pd pe (by omega) ⟨.bl _, H, I, rfl, q⟩
  · exact op_eqZ hu pins s σ H _ y v u Q I rx ry ⟨z, .dict [], rfl, hz, hd, .inr rfl, q⟩
theorem op_neP (hu : X.A.units + 64 < cLine) : OpR X (compareOp .NotEq) (rNeP X.K) := by
  intro pins s σ H x y v u Q I rx ry h
  obtain ⟨d, e, hd, he, pd, pe, hl, q⟩ := h
  obtain ⟨as, r1⟩ := Dz.reads I d x v hd rx
  obtain ⟨bs, r2⟩ := Dz.reads I e y u he ry
  exact SeqAt.ne_plain r1 r2 pd pe (by omega) ⟨.bl _, H, I, rfl, q⟩
/-- == of data (a text == {}: False) -/
def vEqC (d e : Val) : Option Bool :=
  if (plain d && plain e && decide ((toD d).depth ≤ 60)) = true then some (PyData.eqv (toD d) (toD e)) else
    match d, e with
    | .str z, .dic [] => if SeqAt.shaped (.str z) = true then some false else none
    | _, _ => none
def vEqP (d e : Val) : Option Bool := if (plain d && plain e && decide ((toD d).depth ≤ 60)) = true then some (PyData.eqv (toD d) (toD e)) else none
def eqG (d e : Val) : Option Val := (vEqC d e).map .bl
def neG (d e : Val) : Option Val := (vEqP d e).map fun k => .bl (!k)
theorem sem_eq : Sem2 c (rEqP c.K) eqG := by
  intro x y H S d e o Q s hx hy hg q
  unfold eqG vEqC at hg
  split at hg
  · rename_i h
    cases hg
    have h1 := (Bool.and_eq_true _ _).mp h
    have h2 := (Bool.and_eq_true _ _).mp h1.1
    exact .inl ⟨_, _, hx.dz s (plain_z h2.1), hy.dz s (plain_z h2.2), plain_d h2.1, plain_d h2.2, of_decide_eq_true h1.2, q _ H S (Gr.refl s) (.bl _)⟩
  · split at hg
    · split at hg
      · rename_i h
        cases hg
        exact .inr ⟨_, hx.str, hy.dz s rfl, h, q _ H S (Gr.refl s) (.bl _)⟩
      · cases hg
    · cases hg
theorem sem_ne : Sem2 c (rNeP c.K) neG := by
  intro x y H S d e o Q s hx hy hg q
  unfold neG vEqP at hg
  split at hg
  · rename_i h
    cases hg
    have h1 := (Bool.and_eq_true _ _).mp h
    have h2 := (Bool.and_eq_true _ _).mp h1.1
    exact ⟨_, _, hx.dz s (plain_z h2.1), hy.dz s (plain_z h2.2), plain_d h2.1, plain_d h2.2, of_decide_eq_true h1.2, q _ H S (Gr.refl s) (.bl _)⟩
  · cases hg
/-! ### in -/
def rInP (K : PySem.W.Frag) (neg : Bool) : R2 := fun x y H Q => (∃ d ds, Dz K H x d ∧ (Dz K H y (.list ds) ∨ Dz K H y (.tuple ds)) ∧ d.plain = true ∧ PyData.plainAll ds = true ∧ d.depth ≤ 60 ∧ Q (.bl (if neg then !ds.any fun y => PyData.eqv y d else ds.any fun y => PyData.eqv y d)) H) ∨
  ∃ (k : Nat) (z : Str), x = .str ⟨#[k]⟩ ∧ y = .str z ∧ Q (.bl (if neg then !decide (k ∈ z.cps.toList) else decide (k ∈ z.cps.toList))) H
theorem op_inP (hu : X.A.units + 64 < cLine) : OpR X (compareOp .In) (rInP X.K false) := by
  intro pins s σ H x y v u Q I rx ry h
  rcases h with ⟨d, e, hd, he | he, pd, pe, hl, q⟩ | ⟨k, z, rfl, rfl, q⟩
  · obtain ⟨as, r1⟩ := Dz.reads I d x v hd rx
    obtain ⟨bs, r2⟩ := Dz.reads I _ y u he ry
    exact SeqAt.in_list_data r2 r1 pe pd (by omega) ⟨.bl _, H, I, rfl, q⟩
  · obtain ⟨as, r1⟩ := Dz.reads I d x v hd rx
    obtain ⟨bs, r2⟩ := Dz.reads I _ y u he ry
    exact SeqAt.in_tuple_data r2 r1 pe pd (by omega) ⟨.bl _, H, I, rfl, q⟩
  · exact op_in_sign pins s σ H _ _ v u Q I rx ry ⟨k, z, rfl, rfl, q⟩
theorem op_notInP (hu : X.A.units + 64 < cLine) : OpR X (compareOp .NotIn) (rInP X.K true) := by
  intro pins s σ H x y v u Q I rx ry h
  rcases h with ⟨d, e, hd, he | he, pd, pe, hl, q⟩ | ⟨k, z, rfl, rfl, q⟩
  · obtain ⟨as, r1⟩ := Dz.reads I d x v hd rx
    obtain ⟨bs, r2⟩ := Dz.reads I _ y u he ry
    exact SeqAt.notIn_list_data r2 r1 pe pd (by omega) ⟨.bl _, H, I, rfl, q⟩
  · obtain ⟨as, r1⟩ := Dz.reads I d x v hd rx
    obtain ⟨bs, r2⟩ := Dz.reads I _ y u he ry
    exact SeqAt.notIn_tuple_data r2 r1 pe pd (by omega) ⟨.bl _, H, I, rfl, q⟩
  · exact op_notIn_sign pins s σ H _ _ v u Q I rx ry ⟨k, z, rfl, rfl, q⟩
/-- in: a list, a tuple of data; one sign in a text -/
def vInB (d e : Val) : Option Bool := match e with
  | .lst es => if (plain d && plains es && decide ((toD d).depth ≤ 60)) = true then some ((toDs es).any fun y => PyData.eqv y (toD d)) else none
  | .tup es => if (plain d && plains es && decide ((toD d).depth ≤ 60)) = true then some ((toDs es).any fun y => PyData.eqv y (toD d)) else none
  | .str z => match d with
    | .str k => if k.cps.size = 1 then some (decide (k.cps.getD 0 0 ∈ z.cps.toList)) else none
    | _ => none
  | _ => none
def vIn (d e : Val) : Option Val := (vInB d e).map .bl
def vNotIn (d e : Val) : Option Val := (vInB d e).map fun k => .bl (!k)
theorem str_one {k : Str} (h : k.cps.size = 1) : k = ⟨#[k.cps.getD 0 0]⟩ := by
  obtain ⟨cs⟩ := k
  obtain ⟨l⟩ := cs
  match l, h with
  | [x], _ => rfl
theorem vIn_cases {d e : Val} {k : Bool} (h : vInB d e = some k) : (∃ es, (e = .lst es ∨ e = .tup es) ∧ plain d = true ∧ plains es = true ∧ (toD d).depth ≤ 60 ∧ k = (toDs es).any fun y => PyData.eqv y (toD d)) ∨ ∃ (n : Nat) (z : Str), d = .str ⟨#[n]⟩ ∧ e = .str z ∧ k = decide (n ∈ z.cps.toList) := by
  cases e with
  | lst es =>
    simp only [vInB] at h
    split at h
    · rename_i g
      have h1 := (Bool.and_eq_true _ _).mp g
      have h2 := (Bool.and_eq_true _ _).mp h1.1
      exact .inl ⟨es, .inl rfl, h2.1, h2.2, of_decide_eq_true h1.2, (Option.some.inj h).symm⟩
    · cases h
  | tup es =>
    simp only [vInB] at h
    split at h
    · rename_i g
      have h1 := (Bool.and_eq_true _ _).mp g
      have h2 := (Bool.and_eq_true _ _).mp h1.1
      exact .inl ⟨es, .inr rfl, h2.1, h2.2, of_decide_eq_true h1.2, (Option.some.inj h).symm⟩
    · cases h
  | str z =>
    cases d with
    | str k =>
      simp only [vInB] at h
      split at h
      · rename_i g
        exact .inr ⟨k.cps.getD 0 0, z, by rw [← str_one g], rfl, (Option.some.inj h).symm⟩
      · cases h
    | _ => cases h
  | _ => cases h
theorem sem_in' (neg : Bool) : Sem2 c (rInP c.K neg) (fun d e => (vInB d e).map fun k => .bl (if neg then !k else k)) := by
  intro x y H S d e o Q s hx hy hg q
  cases z : vInB d e with
  | none => simp only [z] at hg; cases hg
  | some k =>
    simp only [z] at hg
    cases hg
    rcases vIn_cases z with ⟨es, hes, pd, pe, hl, rfl⟩ | ⟨n, w, rfl, rfl, rfl⟩
    · refine .inl ⟨_, toDs es, hx.dz s (plain_z pd), ?_, plain_d pd, plain_ds pe, hl, q _ H S (Gr.refl s) (.bl _)⟩
      rcases hes with rfl | rfl
      · exact .inl (hy.dz s (plains_z pe))
      · exact .inr (hy.dz s (plains_z pe))
    · exact .inr ⟨n, w, hx.str, hy.str, q _ H S (Gr.refl s) (.bl _)⟩
theorem sem_in : Sem2 c (rInP c.K false) vIn := sem_in' false
theorem sem_notIn : Sem2 c (rInP c.K true) vNotIn := sem_in' true
/-! ### is None, is True -/
def vIs (d e : Val) : Option Val := match e with
  | .non => some (.bl (match d with | .non => true | _ => false))
  | .bl b => match d with | .bl a => some (.bl (decide (a = b))) | _ => none
  | _ => none
def vIsNot (d e : Val) : Option Val := match e with
  | .non => some (.bl (match d with | .non => false | _ => true))
  | .bl b => match d with | .bl a => some (.bl (!decide (a = b))) | _ => none
  | _ => none
def rIsA : R2 := fun x y H Q => (y = .non ∧ Q (.bl (decide (x = .non))) H) ∨ rIsB x y H Q
def rIsNotA : R2 := fun x y H Q => (y = .non ∧ Q (.bl (!decide (x = .non))) H) ∨ rNotB x y H Q
theorem op_isA : OpR X (compareOp .Is) rIsA := OpR.or op_isN op_isBl
theorem op_isNotA : OpR X (compareOp .IsNot) rIsNotA := OpR.or op_notN op_notBl
theorem DW.non_iff {S H : Hp} {v : V} {d : Val} (h : DW c S H v d) : decide (v = .non) = (match d with | .non => true | _ => false) := by
  rcases h with h | ⟨a, rfl, _, _, _, h⟩
  · cases h <;> rfl
  · rcases h with ⟨xs, ds, rfl, _⟩ | ⟨xs, ds, rfl, _⟩ <;> rfl
theorem sem_is : Sem2 c rIsA vIs := by
  intro x y H S d e o Q s hx hy hg q
  cases e with
  | non =>
    refine .inl ⟨hy.non, ?_⟩
    rw [hx.non_iff]
    cases hg
    cases d <;> exact q _ H S (Gr.refl s) (.bl _)
  | bl b =>
    cases d with
    | bl a =>
      cases hg
      exact .inr ⟨a, b, hx.bl, hy.bl, q _ H S (Gr.refl s) (.bl _)⟩
    | _ => cases hg
  | _ => cases hg
theorem sem_isNot : Sem2 c rIsNotA vIsNot := by
  intro x y H S d e o Q s hx hy hg q
  cases e with
  | non =>
    refine .inl ⟨hy.non, ?_⟩
    rw [hx.non_iff]
    cases hg
    cases d <;> exact q _ H S (Gr.refl s) (.bl _)
  | bl b =>
    cases d with
    | bl a =>
      cases hg
      exact .inr ⟨a, b, hx.bl, hy.bl, q _ H S (Gr.refl s) (.bl _)⟩
    | _ => cases hg
  | _ => cases hg
/-! ### subscripts -/
def vIx (d e : Val) : Option Val := match d, e with
  | .lst xs, .int i => atI xs i
  | .tup xs, .int i => atI xs i
  | .str z, .int i => if z.length ≤ 1000000 then (atI z.cps.toList i).map fun k => .str ⟨#[k]⟩ else none
  | _, _ => none
theorem atI_dv {S : Hp} {xs : List V} {ds : List Val} {i : Int} {o : Val} (h : DVs c.K c.cl S xs ds) (e : atI ds i = some o) : ∃ v, atI xs i = some v ∧ DV c.K c.cl S v o := by
  unfold atI at e ⊢
  rw [h.len]
  cases z : ixN ds.length i with
  | none => rw [z] at e; cases e
  | some j =>
    rw [z] at e
    exact h.get e
theorem sem_ix : Sem2 c (rIx c.K) vIx := by
  intro x y H S d e o Q s hx hy hg q
  unfold vIx at hg
  split at hg
  · obtain ⟨a, xs, rfl, ha, da⟩ := hx.lst s
    obtain ⟨v, h1, h2⟩ := atI_dv da hg
    exact .inl ⟨a, xs, _, v, rfl, hy.int, ha, h1, q _ H S (Gr.refl s) h2⟩
  · obtain ⟨a, xs, rfl, ha, da⟩ := hx.tup s
    obtain ⟨v, h1, h2⟩ := atI_dv da hg
    exact .inr (.inl ⟨a, xs, _, v, rfl, hy.int, ha, h1, q _ H S (Gr.refl s) h2⟩)
  · split at hg
    · rename_i z i h
      cases w : atI z.cps.toList i with
      | none => rw [w] at hg; cases hg
      | some k =>
        rw [w] at hg
        cases hg
        exact .inr (.inr ⟨z, i, k, hx.str, hy.int, small6 h, w, q _ H S (Gr.refl s) (.str _)⟩)
    · cases hg
  · cases hg
theorem d_ix (hK : X.K = c.K) (ha : PE X a (tW c E fa)) (hb : PE X b (tW c E fb)) (hp : PlainIx b) : PE X (.Subscript a b pos) (tE c E (eBin vIx fa fb)) := d_ixR (r := rIx X.K) ix_seq (by rw [hK]; exact sem_ix) ha hb hp
/-- d[k], d a dict -/
def lookK {α : Type} (ds : List (Key × α)) (k : Key) : Option α := (ds.find? fun kv => decide (kv.1 = k)).map (·.2)
def keyOf : Val → Option Key
  | .int i => some (.inl i)
  | .str z => some (.inr z)
  | _ => none
def vGet (d e : Val) : Option Val := match d with
  | .dic ds => (keyOf e).bind fun k => lookK ds k
  | _ => none
theorem DVd.look {S : Hp} {k : Key} : ∀ {kvs : List (Key × V)} {ds : List (Key × Val)}, DVd c.K c.cl S kvs ds → (lookK ds k = none ∧ valV kvs k = none) ∨ ∃ v d, lookK ds k = some d ∧ valV kvs k = some v ∧ DV c.K c.cl S v d
  | _, _, .nil => .inl ⟨rfl, rfl⟩
  | _, _, .cons (k := k') (v := v) (d := d) (vs := vs) (ds := ds) a b => by
    by_cases h : k' = k
    · exact .inr ⟨v, d, by simp [lookK, List.find?_cons, h], by simp [valV, List.find?_cons, h], a⟩
    · have e1 : lookK ((k', d) :: ds) k = lookK ds k := by simp [lookK, List.find?_cons, h]
      have e2 : valV ((k', v) :: vs) k = valV vs k := by simp [valV, List.find?_cons, h]
      rw [e1, e2]
      exact DVd.look b
theorem key_v {S H : Hp} {v : V} {d : Val} {k : Key} (h : DW c S H v d) (e : keyOf d = some k) : v = kV k := by
  cases d <;> cases e
  · exact h.int
  · exact h.str
theorem d_get (hu : X.A.units + 1 < cLine) (ha : PE X a (tW c E fa)) (hb : PE X b (tW c E fb)) (hs : NoSl b) : PE X (.Subscript a b pos) (tE c E (eBin vGet fa fb)) :=
  pe_imp (pe_dget hu ha hb hs) fun σ H Q ⟨η, S, n, rl, dr, al⟩ => by
    show (tW c E fa) σ H fun x H1 => (tW c E fb) σ H1 fun y H2 => ∃ a v, x = .ref a ∧ DGet H2 a y (some v) ∧ Q v H2
    refine seq2 rl dr (fun _ _ _ _ _ _ g h => h.grow g) (all_mono (all_bind.mp al) (fun d1 m q => all_mono (all_bind.mp q) (fun d2 k q x y H' S' g hd hx hy => ?_) fun _ _ t => t) fun _ _ t => t)
    obtain ⟨o, e, qq⟩ := all_ofO.mp q
    clear q
    unfold vGet at e
    split at e
    · cases z : keyOf d2 with
      | none => rw [z] at e; cases e
      | some k =>
        rw [z] at e
        obtain ⟨p, kvs, rfl, hp, hv⟩ := hx.dic (rl.grow g).sub
        rcases hv.look (k := k) with ⟨h1, _⟩ | ⟨v, d, h1, h2, h3⟩
        · have e' : lookK _ k = some o := e
          rw [h1] at e'; cases e'
        · have e' : lookK _ k = some o := e
          rw [h1] at e'
          cases e'
          refine ⟨p, v, rfl, ?_, qq v H' S' g hd h3⟩
          rw [key_v hy z, ← h2]
          exact DGet.k hp
    · cases e
/-! ### bool operators -/
def eAnd (fa fb : Ev) : Ev := fun η => (fa η).bind fun x => match x with | .bl true => fb η | .bl false => .ret (.bl false) | _ => .bad
def eOr (fa fb : Ev) : Ev := fun η => (fa η).bind fun x => match x with | .bl true => .ret (.bl true) | .bl false => fb η | _ => .bad
def eNot (fa : Ev) : Ev := fun η => (fa η).bind fun x => match x with | .bl k => .ret (.bl (!k)) | _ => .bad
def eIf (ft : Env → T Bool) (fa fb : Ev) : Ev := fun η => (ft η).bind fun k => if k = true then fa η else fb η
theorem d_and {rest : List PySem.Expr} (ha : PE X a (tE c E fa)) (hb : PE X (.BoolOp .And (b :: rest) pos) (tE c E fb)) : PE X (.BoolOp .And (a :: b :: rest) pos) (tE c E (eAnd fa fb)) :=
  pe_imp (pe_and ha hb) fun σ H Q ⟨η, S, n, rl, dr, al⟩ => ⟨η, S, n, rl, dr, all_mono (all_bind.mp al) (fun d m q v H1 S1 g1 dr1 h1 => by
    cases d with
    | bl k =>
      cases h1
      refine ⟨k, rfl, ?_⟩
      cases k with
      | true =>
        rw [if_pos rfl]
        exact ⟨η, S1, m, rl.grow g1, dr1, all_mono q (fun _ _ q v H2 S2 g2 dr2 h2 => q v H2 S2 (g1.trans g2) dr2 h2) fun _ _ t => t.after g1⟩
      | false =>
        rw [if_neg Bool.false_ne_true]
        exact q _ H1 S1 g1 dr1 (.bl _)
    | _ => exact (show False from q).elim) fun _ _ t => t⟩
theorem d_or {rest : List PySem.Expr} (ha : PE X a (tE c E fa)) (hb : PE X (.BoolOp .Or (b :: rest) pos) (tE c E fb)) : PE X (.BoolOp .Or (a :: b :: rest) pos) (tE c E (eOr fa fb)) :=
  pe_imp (pe_or ha hb) fun σ H Q ⟨η, S, n, rl, dr, al⟩ => ⟨η, S, n, rl, dr, all_mono (all_bind.mp al) (fun d m q v H1 S1 g1 dr1 h1 => by
    cases d with
    | bl k =>
      cases h1
      refine ⟨k, rfl, ?_⟩
      cases k with
      | false =>
        rw [if_neg Bool.false_ne_true]
        exact ⟨η, S1, m, rl.grow g1, dr1, all_mono q (fun _ _ q v H2 S2 g2 dr2 h2 => q v H2 S2 (g1.trans g2) dr2 h2) fun _ _ t => t.after g1⟩
      | true =>
        rw [if_pos rfl]
        exact q _ H1 S1 g1 dr1 (.bl _)
    | _ => exact (show False from q).elim) fun _ _ t => t⟩
theorem d_one {op : BoolOp} (h : PE X a (tE c E fa)) : PE X (.BoolOp op [a] pos) (tE c E fa) := pe_one h
theorem d_not (ha : PE X a (tE c E fa)) : PE X (.UnaryOp .Not a pos) (tE c E (eNot fa)) :=
  pe_imp (pe_not ha) fun σ H Q ⟨η, S, n, rl, dr, al⟩ => ⟨η, S, n, rl, dr, all_mono (all_bind.mp al) (fun d m q v H1 S1 g1 dr1 h1 => by
    cases d with
    | bl k =>
      cases h1
      exact ⟨k, rfl, q _ H1 S1 g1 dr1 (.bl _)⟩
    | _ => exact (show False from q).elim) fun _ _ t => t⟩
theorem d_if {t : PySem.Expr} {ft : Env → T Bool} (ht : PT X t (tT c E ft)) (ha : PE X a (tE c E fa)) (hb : PE X b (tE c E fb)) : PE X (.IfExp t a b pos) (tE c E (eIf ft fa fb)) :=
  pe_imp (pe_ifExp ht ha hb) fun σ H Q ⟨η, S, n, rl, dr, al⟩ => ⟨η, S, n, rl, dr, all_mono (all_bind.mp al) (fun k m q H1 S1 g1 dr1 => by
    cases k with
    | true =>
      rw [if_pos rfl] at q ⊢
      exact ⟨η, S1, m, rl.grow g1, dr1, all_mono q (fun _ _ q v H2 S2 g2 dr2 h2 => q v H2 S2 (g1.trans g2) dr2 h2) fun _ _ t => t.after g1⟩
    | false =>
      rw [if_neg Bool.false_ne_true] at q ⊢
      exact ⟨η, S1, m, rl.grow g1, dr1, all_mono q (fun _ _ q v H2 S2 g2 dr2 h2 => q v H2 S2 (g1.trans g2) dr2 h2) fun _ _ t => t.after g1⟩) fun _ _ t => t⟩
/-! ### tests -/
def bOf : Val → Option Bool
  | .bl k => some k
  | _ => none
def truth : Val → Option Bool
  | .non => some false
  | .bl k => some k
  | .int i => some (i != 0)
  | .str z => if z.length ≤ 1000000 then some ((z.length : Int) != 0) else none
  | .lst xs => some (!xs.isEmpty)
  | .tup xs => some (!xs.isEmpty)
  | .dic kvs => some (!kvs.isEmpty)
  | .fn _ => none
  | .exc _ _ _ => none
def tst (f : Ev) : Env → T Bool := fun η => (f η).bind fun x => ofO (bOf x)
def tru (f : Ev) : Env → T Bool := fun η => (f η).bind fun x => ofO (truth x)
def tNo (f : Env → T Bool) : Env → T Bool := fun η => (f η).bind fun k => .ret (!k)
def tBoth (f g : Env → T Bool) : Env → T Bool := fun η => (f η).bind fun k => if k = true then g η else .ret false
def tSome (f g : Env → T Bool) : Env → T Bool := fun η => (f η).bind fun k => if k = true then .ret true else g η
theorem isEmpty_dv {S : Hp} {xs : List V} {ds : List Val} (h : DVs c.K c.cl S xs ds) : xs.isEmpty = ds.isEmpty := by cases h <;> rfl
theorem isEmpty_dd {S : Hp} {xs : List (Key × V)} {ds : List (Key × Val)} (h : DVd c.K c.cl S xs ds) : xs.isEmpty = ds.isEmpty := by cases h <;> rfl
theorem truth_v {S H : Hp} {v : V} {d : Val} {k : Bool} (s : Sub S H) (h : DW c S H v d) (e : truth d = some k) : TruV c.K v H k := by
  cases d with
  | non => cases e; rw [h.non]; rfl
  | bl b => cases e; rw [h.bl]; rfl
  | int i => cases e; rw [h.int]; rfl
  | str z =>
    simp only [truth] at e
    split at e
    · rename_i g
      cases e
      rw [h.str]
      exact ⟨small6 g, rfl⟩
    · cases e
  | lst xs =>
    cases e
    obtain ⟨a, vs, rfl, h1, h2⟩ := h.lst s
    exact .inl ⟨vs, h1, by rw [isEmpty_dv h2]⟩
  | tup xs =>
    cases e
    obtain ⟨a, vs, rfl, h1, h2⟩ := h.tup s
    exact .inr (.inl ⟨vs, h1, by rw [isEmpty_dv h2]⟩)
  | dic xs =>
    cases e
    obtain ⟨a, vs, rfl, h1, h2⟩ := h.dic s
    exact .inr (.inr ⟨vs, h1, by rw [isEmpty_dd h2]⟩)
  | fn _ => cases e
  | exc _ _ _ => cases e
theorem t_tru (hK : X.K = c.K) (ha : PE X a (tW c E fa)) (he : ∀ whole, isTrue a X.env whole = (do let v ← whole; standAt a.pos; holding [v] (truthy v)) := by intro _; rfl) : PT X a (tT c E (tru fa)) :=
  pt_imp (pt_truth ha he) fun σ H Q ⟨η, S, n, rl, dr, al⟩ => ⟨η, S, n, rl, dr, all_mono (all_bind.mp al) (fun d m q v H1 S1 g1 dr1 h1 => by
    obtain ⟨k, e, q⟩ := all_ofO.mp q
    refine ⟨k, ?_, q H1 S1 g1 dr1⟩
    rw [hK]
    exact truth_v (rl.grow g1).sub h1 e) fun _ _ t => t⟩
theorem tst_read {r : R2} {g : Val → Val → Option Val} (hs : Sem2 c r g) {σ : L2.St} {H : Hp} {Q : Bool → Hp → Prop} (h : tT c E (tst (eBin g fa fb)) σ H Q) : tTest (tOp r (tW c E fa) (tW c E fb)) σ H Q := by
  obtain ⟨η, S, n, rl, dr, al⟩ := h
  refine bin_read (Q := fun x H' => ∃ k, x = .bl k ∧ Q k H') hs ⟨η, S, n, rl, dr, all_mono (all_bind.mp al) (fun d m q v H1 S1 g1 dr1 h1 => ?_) fun _ _ t => t⟩
  obtain ⟨k, e, q⟩ := all_ofO.mp q
  cases d <;> cases e
  cases h1
  exact ⟨_, rfl, q H1 S1 g1 dr1⟩
theorem t_cmp {op : CmpOp} {r : R2} {g : Val → Val → Option Val} (ho : OpR X (compareOp op) r) (hs : Sem2 c r g) (ha : PE X a (tW c E fa)) (hb : PE X b (tW c E fb)) (hm : behindInMarks op b = false) : PT X (.Compare a [op] [b] pos) (tT c E (tst (eBin g fa fb))) :=
  pt_imp (pt_cmpR ho ha hb hm) fun _ _ _ h => tst_read hs h
theorem t_not {ft : Env → T Bool} (ha : PT X a (tT c E ft)) : PT X (.UnaryOp .Not a pos) (tT c E (tNo ft)) :=
  pt_imp (pt_not ha) fun σ H Q ⟨η, S, n, rl, dr, al⟩ => ⟨η, S, n, rl, dr, all_bind.mp al⟩
theorem w_and1 {ft : Env → T Bool} (ha : PT X a (tT c E ft)) : PW X (.BoolOp .And [a] pos) (tT c E ft) := pw_and1 ha
theorem w_or1 {ft : Env → T Bool} (ha : PT X a (tT c E ft)) : PW X (.BoolOp .Or [a] pos) (tT c E ft) := pw_or1 ha
theorem w_and {rest : List PySem.Expr} {ft gt : Env → T Bool} (ha : PT X a (tT c E ft)) (hb : PW X (.BoolOp .And (b :: rest) pos) (tT c E gt)) : PW X (.BoolOp .And (a :: b :: rest) pos) (tT c E (tBoth ft gt)) :=
  pw_imp (pw_and ha hb) fun σ H Q ⟨η, S, n, rl, dr, al⟩ => ⟨η, S, n, rl, dr, all_mono (all_bind.mp al) (fun k m q H1 S1 g1 dr1 => by
    cases k with
    | true =>
      rw [if_pos rfl] at q ⊢
      exact ⟨η, S1, m, rl.grow g1, dr1, all_mono q (fun _ _ q H2 S2 g2 dr2 => q H2 S2 (g1.trans g2) dr2) fun _ _ t => t.after g1⟩
    | false =>
      rw [if_neg Bool.false_ne_true] at q ⊢
      exact q H1 S1 g1 dr1) fun _ _ t => t⟩
theorem w_or {rest : List PySem.Expr} {ft gt : Env → T Bool} (ha : PT X a (tT c E ft)) (hb : PW X (.BoolOp .Or (b :: rest) pos) (tT c E gt)) : PW X (.BoolOp .Or (a :: b :: rest) pos) (tT c E (tSome ft gt)) :=
  pw_imp (pw_or ha hb) fun σ H Q ⟨η, S, n, rl, dr, al⟩ => ⟨η, S, n, rl, dr, all_mono (all_bind.mp al) (fun k m q H1 S1 g1 dr1 => by
    cases k with
    | false =>
      rw [if_neg Bool.false_ne_true] at q ⊢
      exact ⟨η, S1, m, rl.grow g1, dr1, all_mono q (fun _ _ q H2 S2 g2 dr2 => q H2 S2 (g1.trans g2) dr2) fun _ _ t => t.after g1⟩
    | true =>
      rw [if_pos rfl] at q ⊢
      exact q H1 S1 g1 dr1) fun _ _ t => t⟩
/-! ### a op b op c -/
def eChain (g g' : Val → Val → Option Val) (fa fb fc : Ev) : Ev := fun η => (fa η).bind fun x => (fb η).bind fun y => (ofO (g x y)).bind fun z => match z with | .bl true => (fc η).bind fun w => ofO (g' y w) | .bl false => .ret (.bl false) | _ => .bad
theorem chain_read {r r' : R2} {g g' : Val → Val → Option Val} (hs : Sem2 c r g) (hs' : Sem2 c r' g') {σ : L2.St} {H : Hp} {Q : VK} (h : tE c E (eChain g g' fa fb fc) σ H Q) : tChain r r' (tW c E fa) (tW c E fb) (tW c E fc) σ H Q := by
  obtain ⟨η, S, n, rl, dr, al⟩ := h
  refine seq2 (Rr := fun x y H2 => r x y H2 fun z H3 => ∃ k, z = .bl k ∧ (if k = true then (tW c E fc) σ H3 fun w' H4 => r' y w' H4 Q else Q (.bl false) H3)) rl dr (fun _ _ _ _ _ _ g h => h.grow g)
    (all_mono (all_bind.mp al) (fun d1 m q => all_mono (all_bind.mp q) (fun d2 k q x y H' S' g hd hx hy => ?_) fun _ _ t => t) fun _ _ t => t)
  obtain ⟨o, e, q⟩ := all_ofO.mp (all_bind.mp q)
  refine hs x y H' S' d1 d2 o _ (rl.grow g).sub hx hy e fun v H2 S2 g2 hv => ?_
  cases o with
  | bl t =>
    cases hv
    refine ⟨t, rfl, ?_⟩
    have g12 := g.trans g2.d
    have hd2 := hd.sub g2.keep
    cases t with
    | false => exact q _ H2 S2 g12 hd2 (.bl _)
    | true =>
      rw [if_pos rfl]
      refine ⟨η, S2, k, rl.grow g12, hd2, all_mono (all_bind.mp q) (fun d3 m3 q w H3 S3 g3 hd3 hw => ?_) fun _ _ t => t.after g12⟩
      obtain ⟨o, e, q⟩ := all_ofO.mp q
      exact hs' y w H3 S3 d2 d3 o Q (rl.grow (g12.trans g3)).sub ((hy.grow g2.d).grow g3) hw e fun v H4 S4 g4 hv => q v H4 S4 ((g12.trans g3).trans g4.d) (hd3.sub g4.keep) hv
  | _ => exact (show False from q).elim
theorem d_chain {c' : PySem.Expr} {op op' : CmpOp} {r r' : R2} {g g' : Val → Val → Option Val} (ho : OpR X (compareOp op) r) (ho' : OpR X (compareOp op') r') (hs : Sem2 c r g) (hs' : Sem2 c r' g') (ha : PE X a (tW c E fa)) (hb : PE X b (tW c E fb)) (hc : PE X c' (tW c E fc))
    (hm : lastMarks [op, op'] [b, c'] = false := by with_unfolding_all rfl) : PE X (.Compare a [op, op'] [b, c'] pos) (tE c E (eChain g g' fa fb fc)) := pe_imp (pe_chain ho ho' ha hb hc hm) fun _ _ _ h => chain_read hs hs' h
theorem t_chain {c' : PySem.Expr} {op op' : CmpOp} {r r' : R2} {g g' : Val → Val → Option Val} (ho : OpR X (compareOp op) r) (ho' : OpR X (compareOp op') r') (hs : Sem2 c r g) (hs' : Sem2 c r' g') (ha : PE X a (tW c E fa)) (hb : PE X b (tW c E fb)) (hc : PE X c' (tW c E fc))
    (hm : lastMarks [op, op'] [b, c'] = false := by with_unfolding_all rfl) : PT X (.Compare a [op, op'] [b, c'] pos) (tT c E (tst (eChain g g' fa fb fc))) :=
  pt_imp (pt_chain ho ho' ha hb hc hm) fun σ H Q ⟨η, S, n, rl, dr, al⟩ => chain_read (Q := fun x H' => ∃ k, x = .bl k ∧ Q k H') hs hs' ⟨η, S, n, rl, dr, all_mono (all_bind.mp al) (fun d m q v H1 S1 g1 dr1 h1 => by
    obtain ⟨k, e, q⟩ := all_ofO.mp q
    cases d <;> cases e
    cases h1
    exact ⟨_, rfl, q H1 S1 g1 dr1⟩) fun _ _ t => t⟩
/-! ### arguments, displays -/
def aNil : EvL := fun _ => .ret []
def aCons (f : Ev) (fs : EvL) : EvL := fun η => (f η).bind fun x => (fs η).bind fun xs => .ret (x :: xs)
theorem DWs.grow {S H S' H' : Hp} (g : Gd c.tb c.dr H S H' S') : ∀ {vs : List V} {ds : List Val}, DWs c S H vs ds → DWs c S' H' vs ds
  | _, _, .nil => .nil
  | _, _, .cons a b => .cons (a.grow g) (DWs.grow g b)
theorem a_nil : PA X [] (tA c E aNil) := pa_imp pa_nil fun σ H Q ⟨η, S, n, rl, dr, al⟩ => al [] H S (Gd.refl rl.sub) dr .nil
theorem a_cons {es : List PySem.Expr} {fs : EvL} (ha : PE X a (tE c E fa)) (hr : PA X es (tA c E fs)) (hs : starEach (a :: es) X.env = (false, eval a X.env) :: starEach es X.env := by rfl) : PA X (a :: es) (tA c E (aCons fa fs)) :=
  pa_imp (pa_cons ha hr hs) fun σ H Q ⟨η, S, n, rl, dr, al⟩ => ⟨η, S, n, rl, dr, all_mono (all_bind.mp al) (fun d m q v H1 S1 g1 dr1 h1 => ⟨η, S1, m, rl.grow g1, dr1, all_mono (all_bind.mp q) (fun ds k q vs H2 S2 g2 dr2 h2 => q _ H2 S2 (g1.trans g2) dr2 (.cons (h1.mono g2.up) h2)) fun _ _ t => t.after g1⟩) fun _ _ t => t⟩
theorem w_nil : PA X [] (tAW c E aNil) := pa_imp pa_nil fun σ H Q ⟨η, S, n, rl, dr, al⟩ => al [] H S (Gd.refl rl.sub) dr .nil
theorem w_cons {es : List PySem.Expr} {fs : EvL} (ha : PE X a (tW c E fa)) (hr : PA X es (tAW c E fs)) (hs : starEach (a :: es) X.env = (false, eval a X.env) :: starEach es X.env := by rfl) : PA X (a :: es) (tAW c E (aCons fa fs)) :=
  pa_imp (pa_cons ha hr hs) fun σ H Q ⟨η, S, n, rl, dr, al⟩ => ⟨η, S, n, rl, dr, all_mono (all_bind.mp al) (fun d m q v H1 S1 g1 dr1 h1 => ⟨η, S1, m, rl.grow g1, dr1, all_mono (all_bind.mp q) (fun ds k q vs H2 S2 g2 dr2 h2 => q _ H2 S2 (g1.trans g2) dr2 (.cons (h1.grow g2) h2)) fun _ _ t => t.after g1⟩) fun _ _ t => t⟩
def eTup (fs : EvL) : Ev := fun η => (fs η).bind fun xs => if xs.length ≤ 1000 then .ret (.tup xs) else .bad
def eLst (fs : EvL) : Ev := fun η => (fs η).bind fun xs => if xs.length ≤ 1000 then .ret (.lst xs) else .bad
theorem d_tup {es : List PySem.Expr} {fs : EvL} {x1} (h : PA X es (tA c E fs)) : PE X (.Tuple es x1 pos) (tE c E (eTup fs)) :=
  pe_imp (pe_tupP h) fun σ H Q ⟨η, S, n, rl, dr, al⟩ => ⟨η, S, n, rl, dr, all_mono (all_bind.mp al) (fun ds m q vs H1 S1 g1 dr1 h1 => by
    split at q
    · rename_i hl
      refine ⟨by rw [h1.len]; exact small6 (by omega), fun p o hp ho => ?_⟩
      have s1 := (rl.grow g1).sub
      exact q _ _ _ (g1.trans (Gr.alloc s1 hp).d) (dr1.sub (Gr.alloc s1 hp).keep) (DV.newT (s1.free hp) ho h1)
    · exact q.elim) fun _ _ t => t⟩
theorem own_new {S H : Hp} {p : Addr} {xs : List V} {ds : List Val} {σ : L2.St} {η : Env} (rl : Rel c σ H S η) (hp : H p = none) (h : DVs c.K c.cl S xs ds) : OwnAt c S (upd H p (.lst xs)) p (.lst ds) := by
  have f : ∀ a, c.H0 a ≠ none → p ≠ a := fun a h e => by
    subst e
    cases z : c.H0 p with
    | none => exact h z
    | some o => exact absurd hp (rl.g0.dom p o z)
  refine ⟨rl.sub.free hp, ?_, fun q cc e => ?_, .inl ⟨xs, ds, rfl, upd_same, h⟩⟩
  · cases z : c.H0 p with
    | none => rfl
    | some o => exact absurd rfl (f p (by rw [z]; exact fun w => by cases w))
  · obtain ⟨h1, h2, h3, h4, _⟩ := rl.drw q cc e
    exact ⟨f q h2, f cc h3⟩
theorem d_lstN {es : List PySem.Expr} {fs : EvL} (h : PA X es (tA c E fs)) : PE X (.List es pos) (tN c E (eLst fs)) :=
  pe_imp (pe_lst h) fun σ H Q ⟨η, S, n, rl, dr, al⟩ => ⟨η, S, n, rl, dr, all_mono (all_bind.mp al) (fun ds m q vs H1 S1 g1 dr1 h1 => by
    split at q
    · rename_i hl
      refine ⟨by rw [h1.len]; exact small6 (by omega), fun p hp => ?_⟩
      have r1 := rl.grow g1
      have s1 := r1.sub
      refine q p _ S1 (g1.trans (Gr.alloc0 s1 hp).d) (dr1.sub (Gr.alloc0 s1 hp).keep) ?_ (own_new r1 hp h1)
      cases z : H p with
      | none => rfl
      | some o => exact absurd hp (g1.dom p o z)
    · exact q.elim) fun _ _ t => t⟩
/-- a new list or dict is shared at once -/
theorem d_sh {f : Ev} (h : PE X a (tN c E f)) : PE X a (tE c E f) :=
  pe_imp h fun σ H Q ⟨η, S, n, rl, dr, al⟩ => ⟨η, S, n, rl, dr, all_mono al (fun d m q p H1 S1 g1 dr1 hp ho => by
    obtain ⟨h1, h2, h3, h4⟩ := ho
    have key : ∀ o, (∀ ps, o ≠ .tbl ps) → H1 p = some o → Gd c.tb c.dr H S H1 (upd S1 p o) := fun o ht e => by
      refine ⟨g1.keep, g1.up.trans (Sub.new h1), fun a u z => ?_, fun a u z => ?_, g1.dom, g1.tab, fun z => (g1.nt z).new ht⟩
      · rcases upd_none z with ⟨rfl, rfl⟩ | ⟨_, z⟩
        · exact e
        · exact g1.sub a u z
      · rcases upd_none z with ⟨rfl, rfl⟩ | ⟨_, z⟩
        · exact .inr hp
        · exact g1.new a u z
    rcases h4 with ⟨xs, ds, rfl, e, hd⟩ | ⟨kvs, ds, rfl, e, hd⟩
    · exact q _ H1 _ (key _ (fun _ z => by cases z) e) dr1 (DV.newL h1 hd)
    · exact q _ H1 _ (key _ (fun _ z => by cases z) e) dr1 (.dic upd_same (hd.mono (Sub.new h1)))) fun _ _ t => t⟩
theorem d_lst {es : List PySem.Expr} {fs : EvL} (h : PA X es (tA c E fs)) : PE X (.List es pos) (tE c E (eLst fs)) := d_sh (d_lstN h)
/-! ### built-ins -/
def SemN (c : Ct) (r : List V → Hp → VK → Prop) (g : List Val → Option Val) : Prop := ∀ (xs : List V) (H S : Hp) (ds : List Val) (o : Val) (Q : VK), Sub S H → DWs c S H xs ds → g ds = some o → (∀ v H' S', Gr H S H' S' → DV c.K c.cl S' v o → Q v H') → r xs H Q
def eB (g : List Val → Option Val) (fs : EvL) : Ev := fun η => (fs η).bind fun xs => ofO (g xs)
theorem cb_read {r : List V → Hp → VK → Prop} {g : List Val → Option Val} {fs : EvL} (hs : SemN c r g) {σ : L2.St} {H : Hp} {Q : VK} (h : tE c E (eB g fs) σ H Q) : tCB r (tAW c E fs) σ H Q := by
  obtain ⟨η, S, n, rl, dr, al⟩ := h
  exact ⟨η, S, n, rl, dr, all_mono (all_bind.mp al) (fun ds m q vs H1 S1 g1 dr1 h1 => by
    obtain ⟨o, e, q⟩ := all_ofO.mp q
    exact hs vs H1 S1 ds o Q (rl.grow g1).sub h1 e fun v H2 S2 g2 hv => q v H2 S2 (g1.trans g2.d) (dr1.sub g2.keep) hv) fun _ _ t => t⟩
variable {es : List PySem.Expr} {fs : EvL} {r : List V → Hp → VK → Prop} {g : List Val → Option Val} {x : Str} {p : Pos}
theorem d_callB {id : String} (hc : CallR X (.builtin id) r) (hs : SemN c r g) (hg : Gl X x) (hm : X.mg x = none) (hv : bootBuiltins x = some (.builtin id)) (ha : PA X (a :: es) (tAW c E fs)) (hn : x ≠ "__name__" := by decide) (hdb : (x == ("__debug__" : Str)) = false := by decide)
    (he : starEach (a :: es) X.env = (false, eval a X.env) :: starEach es X.env := by rfl) (hpl : (backTo pos (starEach es X.env)).any (·.1) = false := by rfl) : PE X (.Call (.Name x p) (a :: es) [] pos) (tE c E (eB g fs)) :=
  pe_imp (pe_callB hc hg hm hv ha hn hdb he hpl) fun _ _ _ h => cb_read hs h
theorem d_callTy {T : String} (hc : CallR X (.type T) r) (hs : SemN c r g) (hg : Gl X x) (hm : X.mg x = none) (hv : bootBuiltins x = some (.type T)) (ha : PA X (a :: es) (tAW c E fs)) (hn : x ≠ "__name__" := by decide) (hdb : (x == ("__debug__" : Str)) = false := by decide)
    (he : starEach (a :: es) X.env = (false, eval a X.env) :: starEach es X.env := by rfl) (hpl : (backTo pos (starEach es X.env)).any (·.1) = false := by rfl) : PE X (.Call (.Name x p) (a :: es) [] pos) (tE c E (eB g fs)) :=
  pe_imp (pe_callTy hc hg hm hv ha hn hdb he hpl) fun _ _ _ h => cb_read hs h
theorem DWs.one {S H : Hp} {xs : List V} {d : Val} (h : DWs c S H xs [d]) : ∃ v, xs = [v] ∧ DW c S H v d := by
  cases h with | cons a b => cases b; exact ⟨_, rfl, a⟩
theorem DWs.two {S H : Hp} {xs : List V} {d e : Val} (h : DWs c S H xs [d, e]) : ∃ v w, xs = [v, w] ∧ DW c S H v d ∧ DW c S H w e := by
  cases h with | cons a b => cases b with | cons a' b => cases b; exact ⟨_, _, rfl, a, a'⟩
/-- len -/
def vLen : List Val → Option Val
  | [.str z] => if z.length ≤ 1000000 then some (.int z.length) else none
  | [.lst xs] => some (.int xs.length)
  | [.tup xs] => some (.int xs.length)
  | [.dic xs] => some (.int xs.length)
  | _ => none
def rLenA (K : PySem.W.Frag) : List V → Hp → VK → Prop := fun xs H Q => (∃ x n, xs = [x] ∧ LenV K x H n ∧ Q (.int n) H) ∨ ∃ a kvs, xs = [V.ref a] ∧ H a = some (.dK kvs) ∧ Q (.int kvs.length) H
theorem call_lenA : CallR X (.builtin "len") (rLenA X.K) := fun pins s σ H xs us Q I r h => h.elim (call_len pins s σ H xs us Q I r) (call_lenD pins s σ H xs us Q I r)
theorem DVd.len {S : Hp} : ∀ {kvs : List (Key × V)} {ds : List (Key × Val)}, DVd c.K c.cl S kvs ds → kvs.length = ds.length
  | _, _, .nil => rfl
  | _, _, .cons _ b => by rw [List.length_cons, List.length_cons, DVd.len b]
theorem sem_len : SemN c (rLenA c.K) vLen := by
  intro xs H S ds o Q s h hg q
  unfold vLen at hg
  split at hg
  · obtain ⟨v, rfl, hv⟩ := h.one
    split at hg
    · rename_i g
      cases hg
      rw [hv.str]
      exact .inl ⟨_, _, rfl, ⟨small6 g, rfl⟩, q _ H S (Gr.refl s) (.int _)⟩
    · cases hg
  · obtain ⟨v, rfl, hv⟩ := h.one
    cases hg
    obtain ⟨a, vs, rfl, h1, h2⟩ := hv.lst s
    refine .inl ⟨_, _, rfl, .inl ⟨vs, h1, rfl⟩, ?_⟩
    rw [h2.len]
    exact q _ H S (Gr.refl s) (.int _)
  · obtain ⟨v, rfl, hv⟩ := h.one
    cases hg
    obtain ⟨a, vs, rfl, h1, h2⟩ := hv.tup s
    refine .inl ⟨_, _, rfl, .inr ⟨vs, h1, rfl⟩, ?_⟩
    rw [h2.len]
    exact q _ H S (Gr.refl s) (.int _)
  · obtain ⟨v, rfl, hv⟩ := h.one
    cases hg
    obtain ⟨a, vs, rfl, h1, h2⟩ := hv.dic s
    refine .inr ⟨a, vs, rfl, h1, ?_⟩
    rw [h2.len]
    exact q _ H S (Gr.refl s) (.int _)
  · cases hg
end
end EV
end
section
set_option Elab.async false
set_option linter.all false
set_option maxRecDepth 100000
set_option maxHeartbeats 4000000
/-! Statements. -/
namespace EV
open PySem PySem.Spec PyProof.Rows L2 XK
inductive Out where
  | nx (η : Env) | rt (d : Val) | ex (e : Err) (η : Env) | bk (η : Env) | ct (η : Env)
abbrev Sm := Env → T Out
/-- what an error that leaves the def wishes -/
def Gone (c : Ct) (E : L2.St → XK) (e : Err) (k : Nat) : Prop := ∀ (σ' : L2.St) (C dx : Addr) (v : V) (H' S' : Hp), Gd c.tb c.dr c.H0 c.S0 H' S' → DrOk c.dr H' k → c.cl e.C = some C → H' dx = some (.xd [(e.f, v)]) → c.H0 dx = none → DV c.K c.cl S' v e.x → E σ' (.ref C) (some dx) H'
def OutOk (c : Ct) (E : L2.St → XK) (D : Ends) (S : Hp) (k : Nat) : Out → Prop
  | .nx η' => ∀ σ' H' S', Rel c σ' H' S' η' → DrOk c.dr H' k → Sub S S' → D.nx σ' H'
  | .rt d => ∀ v H' S', Gd c.tb c.dr c.H0 c.S0 H' S' → DrOk c.dr H' k → DV c.K c.cl S' v d → D.rt v H'
  | .ex e η' => ∀ σ' (C dx : Addr) (v : V) H' S', Rel c σ' H' S' η' → DrOk c.dr H' k → Sub S S' → c.cl e.C = some C → H' dx = some (.xd [(e.f, v)]) → c.H0 dx = none → DV c.K c.cl S' v e.x → E σ' (.ref C) (some dx) H'
  | .bk η' => ∀ σ' H' S', Rel c σ' H' S' η' → DrOk c.dr H' k → Sub S S' → D.bk σ' H'
  | .ct η' => ∀ σ' H' S', Rel c σ' H' S' η' → DrOk c.dr H' k → Sub S S' → D.ct σ' H'
def tS (c : Ct) (E : L2.St → XK) (m : Sm) : TS := fun D σ H => ∃ (η : Env) (S : Hp) (n : Nat), Rel c σ H S η ∧ DrOk c.dr H n ∧ All (m η) n (fun o k => OutOk c E D S k o) (fun e k => Gone c E e k)
theorem OutOk.up {c : Ct} {E : L2.St → XK} {D : Ends} {S S1 : Hp} {k : Nat} (s : Sub S S1) : ∀ {o : Out}, OutOk c E D S k o → OutOk c E D S1 k o
  | .nx _, h => fun σ' H' S' r d u => h σ' H' S' r d (s.trans u)
  | .rt _, h => h
  | .ex _ _, h => fun σ' C dx v H' S' r d u => h σ' C dx v H' S' r d (s.trans u)
  | .bk _, h => fun σ' H' S' r d u => h σ' H' S' r d (s.trans u)
  | .ct _, h => fun σ' H' S' r d u => h σ' H' S' r d (s.trans u)
theorem Rel.free0 {c : Ct} {σ : L2.St} {H S : Hp} {η : Env} (r : Rel c σ H S η) {p : Addr} (h : H p = none) : c.H0 p = none := by
  cases z : c.H0 p with
  | none => rfl
  | some o => exact absurd h (r.g0.dom p o z)
/-- an error of an expression, in a statement -/
theorem Thrown.of {c : Ct} {E : L2.St → XK} {D : Ends} {σ : L2.St} {H S : Hp} {η : Env} {e : Err} {m : Nat} (r : Rel c σ H S η) (h : OutOk c E D S m (.ex e η)) : Thrown c (E σ) e H S m :=
  fun C dx v H' S' g d hc hx hn hv => h σ C dx v H' S' (r.grow g) d g.up hc hx (r.free0 hn) hv
/-! ### the slots -/
section
variable {c : Ct} {σ : L2.St} {H S : Hp} {η : Env} {i : Nat}
theorem get_set {α : Type} {l : List (Option α)} {i j : Nat} {x : Option α} {d : α} (h : (l.set i x)[j]? = some (some d)) : (j = i ∧ i < l.length ∧ x = some d) ∨ (j ≠ i ∧ l[j]? = some (some d)) := by
  by_cases e : i = j
  · subst e
    by_cases hl : i < l.length
    · rw [List.getElem?_set_self hl] at h
      exact .inl ⟨rfl, hl, Option.some.inj h⟩
    · rw [List.getElem?_eq_none (by rw [List.length_set]; omega)] at h
      cases h
  · rw [List.getElem?_set_ne e] at h
    exact .inr ⟨fun z => e z.symm, h⟩
theorem Rel.set (r : Rel c σ H S η) {v : V} {d : Val} (hi : i ∉ c.ow) (hd : c.dr = none ∨ i ≠ c.dsl) (h : DV c.K c.cl S v d) : Rel c (σ.set i (some v)) H S (η.set i (some d)) := by
  have ne : ∀ j, j ∈ c.ow → j ≠ i := fun j hj e => hi (e ▸ hj)
  refine ⟨r.g0, by rw [List.length_set, List.length_set, r.len], fun j e z n => ?_, fun j e z n => ?_, fun j k e e' a hj hk hjk z z' y => ?_, fun p cc e => ?_, r.nt, r.tabs⟩
  · rcases get_set z with ⟨rfl, hl, q⟩ | ⟨q, z⟩
    · cases q
      exact ⟨v, List.getElem?_set_self (by rw [← r.len]; exact hl), h⟩
    · rw [List.getElem?_set_ne (Ne.symm q)]
      exact r.loc j e z n
  · rw [List.getElem?_set_ne (Ne.symm (ne j n))] at z ⊢
    exact r.own j e z n
  · rw [List.getElem?_set_ne (Ne.symm (ne j hj))] at z y
    rw [List.getElem?_set_ne (Ne.symm (ne k hk))] at z' ⊢
    exact r.dis j k e e' a hj hk hjk z z' y
  · obtain ⟨h1, h2, h3, h4, h5⟩ := r.drw p cc e
    refine ⟨h1, h2, h3, h4, ?_⟩
    rcases hd with hd | hd
    · rw [hd] at e; cases e
    · rw [List.getElem?_set_ne hd]; exact h5
theorem Rel.setOwn (r : Rel c σ H S η) {a : Addr} {d : Val} (hi : i ∈ c.ow) (hd : c.dr = none ∨ i ≠ c.dsl) (h : OwnAt c S H a d) (hf : ∀ j e, j ∈ c.ow → j ≠ i → η[j]? = some (some e) → σ[j]? ≠ some (some (.ref a))) : Rel c (σ.set i (some (.ref a))) H S (η.set i (some d)) := by
  refine ⟨r.g0, by rw [List.length_set, List.length_set, r.len], fun j e z n => ?_, fun j e z n => ?_, fun j k e e' b hj hk hjk z z' y => ?_, fun p cc e => ?_, r.nt, r.tabs⟩
  · have q : i ≠ j := fun w => n (w ▸ hi)
    rw [List.getElem?_set_ne q] at z ⊢
    exact r.loc j e z n
  · rcases get_set z with ⟨rfl, hl, q⟩ | ⟨q, z⟩
    · cases q
      exact ⟨a, List.getElem?_set_self (by rw [← r.len]; exact hl), h⟩
    · rw [List.getElem?_set_ne (Ne.symm q)]
      exact r.own j e z n
  · rcases get_set z with ⟨rfl, hl, q⟩ | ⟨q, zz⟩
    · rw [List.getElem?_set_self (by rw [← r.len]; exact hl)] at y
      rw [List.getElem?_set_ne hjk] at z' ⊢
      cases y
      exact hf k e' hk (Ne.symm hjk) z'
    · rw [List.getElem?_set_ne (Ne.symm q)] at y
      rcases get_set z' with ⟨rfl, hl, q'⟩ | ⟨q', z''⟩
      · rw [List.getElem?_set_self (by rw [← r.len]; exact hl)]
        intro w
        cases w
        exact hf j e hj hjk zz y
      · rw [List.getElem?_set_ne (Ne.symm q')]
        exact r.dis j k e e' b hj hk hjk zz z'' y
  · obtain ⟨h1, h2, h3, h4, h5⟩ := r.drw p cc e
    refine ⟨h1, h2, h3, h4, ?_⟩
    rcases hd with hd | hd
    · rw [hd] at e; cases e
    · rw [List.getElem?_set_ne hd]; exact h5
/-- an own list or dict changes -/
theorem Rel.mut (r : Rel c σ H S η) {a : Addr} {d0 d : Val} {o : HO} (hi : i ∈ c.ow) (e0 : η[i]? = some (some d0)) (ea : σ[i]? = some (some (.ref a))) (ho : OwnAt c S (upd H a o) a d) : Rel c σ (upd H a o) S (η.set i (some d)) := by
  obtain ⟨a', ea', oa⟩ := r.own i d0 e0 hi
  rw [ea] at ea'
  cases ea'
  have hH : ∃ u, H a = some u := by
    obtain ⟨_, _, _, h4⟩ := oa
    rcases h4 with ⟨xs, ds, _, h, _⟩ | ⟨xs, ds, _, h, _⟩ <;> exact ⟨_, h⟩
  obtain ⟨u, hu⟩ := hH
  have tbU : ∀ P q, LamX.TabS H P q → ∀ o, LamX.TabS (upd H a o) P q := fun P q t o => by
    obtain ⟨_, _, _, h4⟩ := oa
    rcases h4 with ⟨xs, ds, _, h, _⟩ | ⟨xs, ds, _, h, _⟩
    · exact tab_updL t h
    · exact tab_updD t h
  refine ⟨⟨fun b w n nt h => ?_, r.g0.up, fun b w h => ?_, r.g0.new, fun b w h => ?_, fun P q t => tbU P.1 P.2 (r.g0.tab P q t) _, r.g0.nt⟩, by rw [List.length_set, r.len], fun j e z n => ?_, fun j e z n => ?_, fun j k e e' b hj hk hjk z z' y => ?_, fun p cc e => ?_, r.nt, fun p hp => tbU p.1 p.2 (r.tabs p hp) _⟩
  · have : b ≠ a := fun q => by rw [q, oa.2.1] at h; cases h
    rw [upd_ne this]
    exact r.g0.keep b w n nt h
  · have : b ≠ a := fun q => by rw [q, oa.1] at h; cases h
    rw [upd_ne this]
    exact r.sub b w h
  · by_cases q : b = a
    · rw [q, upd_same]; exact fun z => by cases z
    · rw [upd_ne q]; exact r.g0.dom b w h
  · have q : i ≠ j := fun w => n (w ▸ hi)
    rw [List.getElem?_set_ne q] at z
    exact r.loc j e z n
  · rcases get_set z with ⟨rfl, hl, q⟩ | ⟨q, z⟩
    · cases q
      exact ⟨a, ea, ho⟩
    · obtain ⟨b, h1, h2, h3, h4, h5⟩ := r.own j e z n
      have nb : b ≠ a := fun w => r.dis i j d0 e a hi n (Ne.symm q) e0 z ea (by rw [h1, w])
      refine ⟨b, h1, h2, h3, h4, ?_⟩
      rw [upd_ne nb]
      exact h5
  · rcases get_set z with ⟨rfl, hl, q⟩ | ⟨q, zz⟩
    · rw [List.getElem?_set_ne hjk] at z'
      exact r.dis j k d0 e' b hj hk hjk e0 z' y
    · rcases get_set z' with ⟨rfl, hl, q'⟩ | ⟨q', z''⟩
      · exact r.dis j k e d0 b hj hk hjk zz e0 y
      · exact r.dis j k e e' b hj hk hjk zz z'' y
  · exact r.drw p cc e
theorem DrOk.mut {dr : Option (Addr × Addr)} {H : Hp} {n : Nat} {a : Addr} {o : HO} (x : DrOk dr H n) (h : ∀ p cc, dr = some (p, cc) → a ≠ p ∧ a ≠ cc) : DrOk dr (upd H a o) n := fun p cc e => by
  obtain ⟨m, hm, d⟩ := x p cc e
  obtain ⟨h1, h2⟩ := h p cc e
  exact ⟨m, hm, d.at (fun u q => by rw [upd_ne (Ne.symm h1)]; exact q) fun u q => by rw [upd_ne (Ne.symm h2)]; exact q⟩
/-- all own things become shared -/
theorem Rel.thaw (r : Rel c σ H S η) : ∃ S', Sub S S' ∧ Rel { c with ow := [] } σ H S' η := by
  classical
  let P : Addr → Prop := fun a => ∃ i d, i ∈ c.ow ∧ η[i]? = some (some d) ∧ σ[i]? = some (some (.ref a))
  have own : ∀ a, P a → ∃ d, OwnAt c S H a d := fun a ⟨i, d, h1, h2, h3⟩ => by
    obtain ⟨b, h4, h5⟩ := r.own i d h2 h1
    rw [h3] at h4
    cases h4
    exact ⟨d, h5⟩
  let S' : Hp := fun a => if P a then H a else S a
  have up : Sub S S' := fun a o h => by
    show (if P a then H a else S a) = some o
    by_cases p : P a
    · obtain ⟨d, o1, _⟩ := own a p
      rw [o1] at h; cases h
    · rw [if_neg p]; exact h
  have ntS : NoT S' := fun a ps h => by
    have h' : (if P a then H a else S a) = some (.tbl ps) := h
    by_cases p : P a
    · obtain ⟨d, _, _, _, o4⟩ := own a p
      rw [if_pos p] at h'
      rcases o4 with ⟨_, _, _, k, _⟩ | ⟨_, _, _, k, _⟩ <;> (rw [k] at h'; cases h')
    · rw [if_neg p] at h'
      exact r.nt a ps h'
  refine ⟨S', up, ⟨r.g0.keep, r.g0.up.trans up, fun a o h => ?_, fun a o h => ?_, r.g0.dom, r.g0.tab, fun _ => ntS⟩, r.len, fun i d e _ => ?_, fun i d e n => (by cases n), fun i j d e a n => (by cases n), fun p cc e => ?_, ntS, r.tabs⟩
  · have h' : (if P a then H a else S a) = some o := h
    by_cases p : P a
    · rw [if_pos p] at h'; exact h'
    · rw [if_neg p] at h'; exact r.sub a o h'
  · have h' : (if P a then H a else S a) = some o := h
    by_cases p : P a
    · obtain ⟨d, _, o2, _⟩ := own a p
      exact .inr o2
    · rw [if_neg p] at h'; exact r.g0.new a o h'
  · by_cases hi : i ∈ c.ow
    · obtain ⟨a, h1, h2, h3, h4, h5⟩ := r.own i d e hi
      refine ⟨_, h1, ?_⟩
      have ha : S' a = H a := if_pos ⟨i, d, hi, e, h1⟩
      rcases h5 with ⟨xs, ds, rfl, h, x⟩ | ⟨xs, ds, rfl, h, x⟩
      · exact .lst (SqL.of (ha.trans h)) (x.mono up)
      · exact .dic (ha.trans h) (x.mono up)
    · obtain ⟨v, h1, h2⟩ := r.loc i d e hi
      exact ⟨v, h1, h2.mono up⟩
  · obtain ⟨h1, h2, h3, h4, h5⟩ := r.drw p cc e
    refine ⟨?_, h2, h3, h4, h5⟩
    show (if P p then H p else S p) = none
    rw [if_neg fun q => ?_]
    · exact h1
    · obtain ⟨d, _, _, o3, _⟩ := own p q
      exact (o3 p cc e).1 rfl
end
/-! ### the forms -/
section
variable {X : Cx} {c : Ct} {E : L2.St → XK} {a b : PySem.Expr} {f g : Ev} {pos : Pos} {st : Stmt} {sts : List Stmt} {m m' : Sm}
def mNil : Sm := fun η => .ret (.nx η)
def mSeq (m m' : Sm) : Sm := fun η => (m η).bind fun o => match o with | .nx η' => m' η' | o => .ret o
theorem s_nil : PSs X [] (tS c E mNil) := pss_imp pss_nil fun D σ H ⟨η, S, n, r, d, a⟩ => a σ H S r d (Sub.refl _)
theorem s_cons (h1 : PS X st (tS c E m)) (h2 : PSs X sts (tS c E m')) : PSs X (st :: sts) (tS c E (mSeq m m')) :=
  pss_imp (pss_cons h1 h2) fun D σ H ⟨η, S, n, r, d, a⟩ => ⟨η, S, n, r, d, all_mono (all_bind.mp a) (fun o k q => by
    cases o with
    | nx η' => exact fun σ' H' S' r' d' u => ⟨η', S', k, r', d', all_mono q (fun _ _ w => w.up u) fun _ _ t => t⟩
    | rt v => exact q
    | ex e η' => exact q
    | bk η' => exact q
    | ct η' => exact q) fun _ _ t => t⟩
theorem s_one (h1 : PS X st (tS c E m)) : PSs X [st] (tS c E m) := pss_one h1
def mSet (i : Nat) (f : Ev) : Sm := fun η => (f η).hd (fun d => .ret (.nx (η.set i (some d)))) fun e => .ret (.ex e η)
theorem asg_read {i : Nat} (hi : i ∉ c.ow) (hd : c.dr = none ∨ i ≠ c.dsl) {D : Ends} {σ : L2.St} {H : Hp} (h : tS c E (mSet i f) D σ H) : tAsg (tE c E f) (gName i) D σ H := by
  obtain ⟨η, S, n, r, d, a⟩ := h
  exact ⟨η, S, n, r, d, all_mono (all_hd.mp a) (fun d1 k q v H' S' g d' h1 => q _ H' S' ((r.grow g).set hi hd h1) d' g.up) fun e k q => Thrown.of (D := D) r q⟩
theorem s_set {i : Nat} {x : Str} {pos' : Pos} (hN : X.N.Nodup) (hx : X.N[i]? = some x) (hl : Loc X.env.scope x) (hi : i ∉ c.ow) (hd : c.dr = none ∨ i ≠ c.dsl) (he : PE X a (tE c E f)) (hs : swapsWith a (some (.Name x pos')) pos.line X.env = pure false := by rfl)
    (hf : X.fn x = true ∨ X.env.scope.names.lookup x = some .local := by first | exact .inl rfl | exact .inr rfl | assumption) : PS X (.Assign [.Name x pos'] a pos) (tS c E (mSet i f)) :=
  ps_imp (ps_set hN hx hl he hs hf) fun _ _ _ h => asg_read hi hd h
theorem own_read {i : Nat} (hi : i ∈ c.ow) (hd : c.dr = none ∨ i ≠ c.dsl) {D : Ends} {σ : L2.St} {H : Hp} (h : tS c E (mSet i f) D σ H) : tAsg (tN c E f) (gName i) D σ H := by
  obtain ⟨η, S, n, r, d, a⟩ := h
  refine ⟨η, S, n, r, d, all_mono (all_hd.mp a) (fun d1 k q p H' S' g d' hp h1 => q _ H' S' ((r.grow g).setOwn hi hd h1 fun j e hj hji z w => ?_) d' g.up) fun e k q => Thrown.of (D := D) r q⟩
  obtain ⟨b, w', _, _, _, h5⟩ := r.own j e z hj
  rw [w] at w'
  cases w'
  rcases h5 with ⟨_, _, _, h, _⟩ | ⟨_, _, _, h, _⟩ <;> rw [hp] at h <;> cases h
theorem s_own {i : Nat} {x : Str} {pos' : Pos} (hN : X.N.Nodup) (hx : X.N[i]? = some x) (hl : Loc X.env.scope x) (hi : i ∈ c.ow) (hd : c.dr = none ∨ i ≠ c.dsl) (he : PE X a (tN c E f)) (hs : swapsWith a (some (.Name x pos')) pos.line X.env = pure false := by rfl)
    (hf : X.fn x = true ∨ X.env.scope.names.lookup x = some .local := by first | exact .inl rfl | exact .inr rfl | assumption) : PS X (.Assign [.Name x pos'] a pos) (tS c E (mSet i f)) :=
  ps_imp (ps_set hN hx hl he hs hf) fun _ _ _ h => own_read hi hd h
def mIf (t : Env → T Bool) (m m' : Sm) : Sm := fun η => (t η).hd (fun k => if k = true then m η else m' η) fun e => .ret (.ex e η)
theorem s_if {t : PySem.Expr} {ft : Env → T Bool} {bs os : List Stmt} (ht : PT X t (tT c E ft)) (ha : PSs X bs (tS c E m)) (hb : PSs X os (tS c E m')) : PS X (.If t bs os pos) (tS c E (mIf ft m m')) :=
  ps_imp (ps_if ht ha hb) fun D σ H ⟨η, S, n, r, d, a⟩ => ⟨η, S, n, r, d, all_mono (all_hd.mp a) (fun k j q H1 S1 g1 d1 => by
    cases k with
    | true =>
      rw [if_pos rfl] at q ⊢
      exact ⟨η, S1, j, r.grow g1, d1, all_mono q (fun _ _ w => w.up g1.up) fun _ _ t => t⟩
    | false =>
      rw [if_neg Bool.false_ne_true] at q ⊢
      exact ⟨η, S1, j, r.grow g1, d1, all_mono q (fun _ _ w => w.up g1.up) fun _ _ t => t⟩) fun e k q => Thrown.of (D := D) r q⟩
def mRet (f : Ev) : Sm := fun η => (f η).bind fun d => .ret (.rt d)
/-- return e: all own things are shared from here on -/
theorem s_ret (he : PE X a (tE { c with ow := [] } E f)) : PS X (.Return (some a) pos) (tS c E (mRet f)) :=
  ps_imp (ps_ret he) fun D σ H ⟨η, S, n, r, d, al⟩ => by
    obtain ⟨S', up, r'⟩ := r.thaw
    exact ⟨η, S', n, r', d, all_mono (all_bind.mp al) (fun d1 k q v H1 S1 g1 d1' h1 => q v H1 S1 (r'.g0.trans g1) d1' h1) fun e k q C dx v H1 S1 g1 d1' hc hx hn hv => q σ C dx v H1 S1 (r'.g0.trans g1) d1' hc hx (r'.free0 hn) hv⟩
theorem s_ret0 : PS X (.Return none pos) (tS c E (mRet fun _ => .ret .non)) :=
  ps_imp ps_retN fun D σ H ⟨η, S, n, r, d, al⟩ => al .non H S r.g0 d .non
def mExpr (f : Ev) : Sm := fun η => (f η).hd (fun _ => .ret (.nx η)) fun e => .ret (.ex e η)
theorem s_expr (he : PE X a (tE c E f)) (hs : swapsWith a none pos.line X.env = pure false := by rfl) : PS X (.Expr a pos) (tS c E (mExpr f)) :=
  ps_imp (ps_expr he hs) fun D σ H ⟨η, S, n, r, d, al⟩ => ⟨η, S, n, r, d, all_mono (all_hd.mp al) (fun d1 k q v H1 S1 g1 d1' h1 => q σ H1 S1 (r.grow g1) d1' g1.up) fun e k q => Thrown.of (D := D) r q⟩
/-! ### targets -/
/-- a value, or a tuple that an iterator made -/
inductive DX (c : Ct) (S : Hp) : V → Val → Prop
  | of {v : V} {d : Val} : DV c.K c.cl S v d → DX c S v d
  | tup {a : Addr} {xs : List V} {ds : List Val} : SqT c.K S a xs → DVs c.K c.cl S xs ds → DX c S (.ref a) (.tup ds)
def VR (c : Ct) (w : Bool) (S : Hp) (v : V) (d : Val) : Prop := if w = true then DX c S v d else DV c.K c.cl S v d
theorem VR.tup {c : Ct} {w : Bool} {S : Hp} {v : V} {ds : List Val} (h : VR c w S v (.tup ds)) : ∃ a xs, v = .ref a ∧ SqT c.K S a xs ∧ DVs c.K c.cl S xs ds := by
  have key : ∀ {v : V}, DV c.K c.cl S v (.tup ds) → ∃ a xs, v = .ref a ∧ SqT c.K S a xs ∧ DVs c.K c.cl S xs ds := fun h => by
    cases h with | tup h1 h2 => exact ⟨_, _, rfl, h1.sq, h2⟩
  cases w with
  | false => exact key h
  | true =>
    cases (show DX c S v (.tup ds) from h) with
    | of h => exact key h
    | tup h1 h2 => exact ⟨_, _, rfl, h1, h2⟩
theorem VR.of {c : Ct} {w : Bool} {S : Hp} {v : V} {d : Val} (h : DV c.K c.cl S v d) : VR c w S v d := by
  cases w with
  | false => exact h
  | true => exact DX.of h
inductive Tg where
  | n (i : Nat)
  | t (l : List Tg)
/-- what a target asks: its slots are no own ones -/
def tG (c : Ct) (w : Bool) (vs : List Nat) (g : Val → Env → Option Env) : TG := fun v σ H Q => ∃ (η η' : Env) (S : Hp) (d : Val), Rel c σ H S η ∧ VR c w S v d ∧ g d η = some η' ∧ ∀ σ', Rel c σ' H S η' → (∀ j, j ∉ vs → σ'[j]? = σ[j]? ∧ η'[j]? = η[j]?) ∧ σ'.length = σ.length → Q σ' H
def tGs (c : Ct) (ws : List Nat) (g : List Val → Env → Option Env) : TGs := fun vs σ H Q => ∃ (η η' : Env) (S : Hp) (ds : List Val), Rel c σ H S η ∧ DVs c.K c.cl S vs ds ∧ g ds η = some η' ∧ ∀ σ', Rel c σ' H S η' → (∀ j, j ∉ ws → σ'[j]? = σ[j]? ∧ η'[j]? = η[j]?) ∧ σ'.length = σ.length → Q σ' H
theorem pg_imp {t t' : TG} (h : PG X a t) (k : ∀ v σ H Q, t' v σ H Q → t v σ H Q) : PG X a t' := ⟨fun pins s σ H v u Q I r q => h.run pins s σ H v u Q I r (k v σ H Q q)⟩
theorem pgs_imp {es : List PySem.Expr} {t t' : TGs} (h : PGs X es t) (k : ∀ v σ H Q, t' v σ H Q → t v σ H Q) : PGs X es t' := ⟨fun pins s σ H v u Q I r q => h.run pins s σ H v u Q I r (k v σ H Q q)⟩
def gN (i : Nat) : Val → Env → Option Env := fun d η => some (η.set i (some d))
def gsNil : List Val → Env → Option Env := fun ds η => match ds with | [] => some η | _ => none
def gsCons (g : Val → Env → Option Env) (gs : List Val → Env → Option Env) : List Val → Env → Option Env := fun ds η => match ds with | d :: r => (g d η).bind fun η' => gs r η' | [] => none
def gT (n : Nat) (gs : List Val → Env → Option Env) : Val → Env → Option Env := fun d η => match d with | .tup xs => if xs.length = n then gs xs η else none | _ => none
theorem g_name {vs : List Nat} {i : Nat} {x : Str} (hv : i ∈ vs) (hN : X.N.Nodup) (hx : X.N[i]? = some x) (hl : Loc X.env.scope x) (hi : i ∉ c.ow) (hd : c.dr = none ∨ i ≠ c.dsl) (hf : X.fn x = true ∨ X.env.scope.names.lookup x = some .local := by first | exact .inl rfl | exact .inr rfl | assumption) : PG X (.Name x pos) (tG c false vs (gN i)) :=
  pg_imp (pg_name hN hx hl hf) fun v σ H Q ⟨η, η', S, d, r, h, e, q⟩ => by
    cases e
    exact q _ (r.set hi hd h) ⟨fun j hj => ⟨List.getElem?_set_ne (fun e : i = j => hj (by rw [← e]; exact hv)), List.getElem?_set_ne (fun e : i = j => hj (by rw [← e]; exact hv))⟩, List.length_set ..⟩
theorem gs_nil {vs : List Nat} : PGs X [] (tGs c vs gsNil) := pgs_imp pgs_nil fun v σ H Q ⟨η, η', S, ds, r, h, e, q⟩ => by
  cases h with
  | nil => cases e; exact ⟨rfl, q _ r ⟨fun _ _ => ⟨rfl, rfl⟩, rfl⟩⟩
  | cons _ _ => cases e
theorem gs_cons {vs : List Nat} {es : List PySem.Expr} {g : Val → Env → Option Env} {gs : List Val → Env → Option Env} (h1 : PG X a (tG c false vs g)) (h2 : PGs X es (tGs c vs gs)) (hs : (assignEach (a :: es) X.env).map (·.2) = assign a X.env :: (assignEach es X.env).map (·.2) := by rfl) : PGs X (a :: es) (tGs c vs (gsCons g gs)) :=
  pgs_imp (pgs_cons h1 h2 hs) fun v σ H Q ⟨η, η', S, ds, r, h, e, q⟩ => by
    cases h with
    | nil => cases e
    | @cons v vs d ds x y =>
      have e' : ((g d η).bind fun η' => gs ds η') = some η' := e
      cases z : g d η with
      | none => rw [z] at e'; cases e'
      | some η1 =>
        rw [z] at e'
        exact ⟨v, vs, rfl, η, η1, S, d, r, x, z, fun σ1 r1 l1 => ⟨η1, η', S, ds, r1, y, e', fun σ2 r2 l2 => q σ2 r2 ⟨fun j hj => ⟨(l2.1 j hj).1.trans (l1.1 j hj).1, (l2.1 j hj).2.trans (l1.1 j hj).2⟩, l2.2.trans l1.2⟩⟩⟩
theorem g_tup {w : Bool} {vs : List Nat} (hK : X.K = c.K) {es : List PySem.Expr} {gs : List Val → Env → Option Env} {n k : Nat} (hc : X.calm = true) (h : PGs X es (tGs c vs gs)) (hn : (assignEach es X.env).length = n := by rfl) (hst : (assignEach es X.env).findIdx? (·.1) = none := by rfl) : PG X (.Tuple es k pos) (tG c w vs (gT n gs)) :=
  pg_imp (pg_tup hc h hn hst) fun v σ H Q ⟨η, η', S, d, r, h, e, q⟩ => by
    unfold gT at e
    split at e
    · split at e
      · rename_i hl
        obtain ⟨a, xs, rfl, h1, h2⟩ := h.tup
        exact ⟨_, _, rfl, by rw [hK]; exact sqt_same r.sub h1, h2.len.trans hl, η, η', S, _, r, h2, e, q⟩
      · cases e
    · cases e
def mAsg (g : Val → Env → Option Env) (f : Ev) : Sm := fun η => (f η).hd (fun d => (ofO (g d η)).bind fun η' => .ret (.nx η')) fun e => .ret (.ex e η)
theorem s_asg {vs : List Nat} {tg : PySem.Expr} {g : Val → Env → Option Env} (he : PE X a (tE c E f)) (hg : PG X tg (tG c false vs g)) (hs : swapsWithSole [tg] a pos.line X.env = pure false := by rfl) (hw : swappedStores [tg] a X.env = pure none := by rfl) (h1 : (assignEach [tg] X.env).map (·.2) = [assign tg X.env] := by rfl) :
    PS X (.Assign [tg] a pos) (tS c E (mAsg g f)) :=
  ps_imp (ps_asg he hg hs hw h1) fun D σ H ⟨η, S, n, r, d, al⟩ => ⟨η, S, n, r, d, all_mono (all_hd.mp al) (fun d1 k q v H1 S1 g1 d1' h1 => by
    obtain ⟨η', e, q⟩ := all_ofO.mp (all_bind.mp q)
    exact ⟨η, η', S1, d1, r.grow g1, h1, e, fun σ' r' _ => q σ' H1 S1 r' d1' g1.up⟩) fun e k q => Thrown.of (D := D) r q⟩
end
/-! ### loops -/
/-- what an iterator gives -/
structure ItOk (c : Ct) (w : Bool) (S : Hp) (J : It) (ds : List Val) : Prop where
  go : ∀ i H S1, Sub S S1 → Sub S1 H → i < ds.length → J.go i H
  stop : ∀ H S1, Sub S S1 → Sub S1 H → J.stop ds.length H
  yld : ∀ i H S1 x H', Sub S S1 → Sub S1 H → J.yld i H x H' → ∀ d, ds[i]? = some d → ∃ S2, Gr H S1 H' S2 ∧ VR c w S2 x d
def tI (c : Ct) (w : Bool) (E : L2.St → XK) (f : EvL) : TI := fun σ H R => ∃ (η : Env) (S : Hp) (n : Nat), Rel c σ H S η ∧ DrOk c.dr H n ∧
  All (f η) n (fun ds m => ∀ J H' S', Gd c.tb c.dr H S H' S' → DrOk c.dr H' m → ItOk c w S' J ds → R J H') (fun e m => Thrown c (E σ) e H S m)
theorem pi_imp {X : Cx} {tg e : PySem.Expr} {t t' : TI} (h : PI X tg e t) (k : ∀ σ H R, t' σ H R → t σ H R) : PI X tg e t' := ⟨fun pins s σ H R I q => h.run pins s σ H R I (k σ H R q)⟩
def turns (g : Val → Env → Option Env) (m : Sm) : List Val → Env → T Out
  | [], η => .ret (.nx η)
  | d :: r, η => (ofO (g d η)).bind fun η1 => (m η1).bind fun o => match o with
    | .nx η2 => turns g m r η2
    | .ct η2 => turns g m r η2
    | .bk η2 => .ret (.nx η2)
    | o => .ret o
def mFor (g : Val → Env → Option Env) (f : EvL) (m : Sm) : Sm := fun η => (f η).hd (fun ds => turns g m ds η) fun e => .ret (.ex e η)
section
variable {X : Cx} {c : Ct} {E : L2.St → XK} {a b : PySem.Expr} {f g : Ev} {pos : Pos} {m : Sm}
theorem s_for {w : Bool} {vs : List Nat} {iter tg : PySem.Expr} {body : List Stmt} {fl : EvL} {g : Val → Env → Option Env} (hp : PassesOwn (model X.prog X.w) X.A X.env X.xe) (hc : X.calm = true) (hi : PI X tg iter (tI c w E fl)) (hg : PG X tg (tG c w vs g)) (hb : PSs X body (tS c E m))
    (hs : ∀ x, foldedSetIterable iter X.env x = pure x := by intro _; rfl) : PS X (.For tg iter body [] pos) (tS c E (mFor g fl m)) :=
  ps_imp (ps_for hp hc hi hg hb hs) fun D σ H ⟨η, S, n, r, d, al⟩ => by
    refine ⟨η, S, n, r, d, all_mono (all_hd.mp al) (fun ds k q J H1 S1 g1 d1 ok => ?_) fun e k q => Thrown.of (D := D) r q⟩
    refine for_ix (n := ds.length) (fun i σ' H' => ∃ η' S' k', Rel c σ' H' S' η' ∧ DrOk c.dr H' k' ∧ Sub S1 S' ∧ i ≤ ds.length ∧ All (turns g m (ds.drop i) η') k' (fun o k => OutOk c E D S' k o) (fun e k => Gone c E e k))
      ⟨η, S1, k, r.grow g1, d1, Sub.refl _, Nat.zero_le _, all_mono q (fun _ _ w => w.up g1.up) fun _ _ t => t⟩ ?_ ?_ ?_ ?_
    · rintro i σ' H' hi ⟨η', S', k', r', d', u', _, q'⟩
      exact ok.go i H' S' u' r'.sub hi
    · rintro σ' H' ⟨η', S', k', r', d', u', _, q'⟩
      exact ok.stop H' S' u' r'.sub
    · rintro i σ' H' x H2 hi ⟨η', S', k', r', d', u', _, q'⟩ y
      have hd : ds[i]? = some ds[i] := by simp [hi]
      obtain ⟨S2, g2, h2⟩ := ok.yld i H' S' x H2 u' r'.sub y _ hd
      rw [List.drop_eq_getElem_cons hi] at q'
      obtain ⟨η1, e1, q1⟩ := all_ofO.mp (all_bind.mp q')
      refine ⟨η', η1, S2, ds[i], r'.grow g2.d, h2, e1, fun σ1 r1 _ => ⟨η1, S2, k', r1, d'.sub g2.keep, all_mono (all_bind.mp q1) (fun o k q => ?_) fun _ _ t => t⟩⟩
      cases o with
      | nx η2 => exact fun σ3 H3 S3 r3 d3 u3 => ⟨η2, S3, k, r3, d3, (u'.trans g2.up).trans u3, hi, all_mono q (fun _ _ w => w.up (g2.up.trans u3)) fun _ _ t => t⟩
      | ct η2 => exact fun σ3 H3 S3 r3 d3 u3 => ⟨η2, S3, k, r3, d3, (u'.trans g2.up).trans u3, hi, all_mono q (fun _ _ w => w.up (g2.up.trans u3)) fun _ _ t => t⟩
      | bk η2 => exact fun σ3 H3 S3 r3 d3 u3 => q σ3 H3 S3 r3 d3 (g2.up.trans u3)
      | rt v => exact q
      | ex e η2 => exact fun σ3 C dx v H3 S3 r3 d3 u3 => q σ3 C dx v H3 S3 r3 d3 (g2.up.trans u3)
    · rintro σ' H' ⟨η', S', k', r', d', u', _, q'⟩
      rw [List.drop_length] at q'
      exact q' σ' H' S' r' d' (Sub.refl _)
/-- while, at most n turns -/
def loops (t : Env → T Bool) (m : Sm) : Nat → Env → T Out
  | 0, _ => .bad
  | n + 1, η => (t η).hd (fun k => if k = true then (m η).bind fun o => match o with
    | .nx η2 => loops t m n η2
    | .ct η2 => loops t m n η2
    | .bk η2 => .ret (.nx η2)
    | o => .ret o
    else .ret (.nx η)) fun e => .ret (.ex e η)
def mWhile (n : Nat) (t : Env → T Bool) (m : Sm) : Sm := fun η => loops t m n η
theorem s_while (n : Nat) {t : PySem.Expr} {body : List Stmt} {ft : Env → T Bool} (hp : PassesOwn (model X.prog X.w) X.A X.env X.xe) (ht : PT X t (tT c E ft)) (hb : PSs X body (tS c E m)) : PS X (.While t body [] pos) (tS c E (mWhile n ft m)) :=
  ps_imp (ps_while hp ht hb) fun D σ H ⟨η, S, k, r, d, al⟩ => by
    refine ⟨fun j σ' H' => ∃ η' S' k', Rel c σ' H' S' η' ∧ DrOk c.dr H' k' ∧ Sub S S' ∧ All (loops ft m j η') k' (fun o k => OutOk c E D S' k o) (fun e k => Gone c E e k), ⟨n, η, S, k, r, d, Sub.refl _, al⟩, ?_⟩
    rintro j σ' H' ⟨η', S', k', r', d', u', q'⟩
    cases j with
    | zero => exact q'.elim
    | succ j =>
      refine ⟨η', S', k', r', d', all_mono (all_hd.mp q') (fun b k q H1 S1 g1 d1 => ?_) fun e k q => Thrown.of (D := D) r' q⟩
      cases b with
      | false =>
        rw [if_neg Bool.false_ne_true] at q ⊢
        exact q σ' H1 S1 (r'.grow g1) d1 g1.up
      | true =>
        rw [if_pos rfl] at q ⊢
        refine ⟨fun σ' H' => ∃ η' S' k', Rel c σ' H' S' η' ∧ DrOk c.dr H' k' ∧ Sub S S' ∧ All (loops ft m j η') k' (fun o k => OutOk c E D S' k o) (fun e k => Gone c E e k), fun σ3 H3 h3 => ⟨j, Nat.lt_succ_self _, h3⟩, η', S1, k, r'.grow g1, d1, all_mono (all_bind.mp q) (fun o k q => ?_) fun _ _ t => t⟩
        cases o with
        | nx η2 => exact fun σ3 H3 S3 r3 d3 u3 => ⟨η2, S3, k, r3, d3, (u'.trans g1.up).trans u3, all_mono q (fun _ _ w => w.up (g1.up.trans u3)) fun _ _ t => t⟩
        | ct η2 => exact fun σ3 H3 S3 r3 d3 u3 => ⟨η2, S3, k, r3, d3, (u'.trans g1.up).trans u3, all_mono q (fun _ _ w => w.up (g1.up.trans u3)) fun _ _ t => t⟩
        | bk η2 => exact fun σ3 H3 S3 r3 d3 u3 => q σ3 H3 S3 r3 d3 (g1.up.trans u3)
        | rt v => exact q
        | ex e η2 => exact fun σ3 C dx v H3 S3 r3 d3 u3 => q σ3 C dx v H3 S3 r3 d3 (g1.up.trans u3)
/-- a range -/
def iRng (fs : EvL) : EvL := fun η => (fs η).bind fun xs => match xs with
  | [.int j] => if j ≤ 1000000 ∧ -1000000 ≤ j then .ret ((List.range j.toNat).map fun k => .int (k : Nat)) else .bad
  | _ => .bad
def iRngB (fs : EvL) : EvL := fun η => (fs η).bind fun xs => match xs with
  | [.int i, .int j] => if (j ≤ 1000000 ∧ -1000000 ≤ j) ∧ i ≤ 1000000 ∧ -1000000 ≤ i then .ret ((List.range (j - i).toNat).map fun k => .int (i + (k : Nat))) else .bad
  | _ => .bad
theorem itok_range {S : Hp} {lo : Int} {n : Nat} {ds : List Val} (h : ds = (List.range n).map fun (k : Nat) => Val.int (lo + k)) : ItOk c false S (Itr lo n) ds := by
  subst h
  refine ⟨fun i H S1 _ _ hi => (by simpa using hi : i < n), fun H S1 _ _ => (by simp [Itr]), fun i H S1 x H' _ s1 y d hd => ?_⟩
  obtain ⟨rfl, rfl⟩ := y
  rw [List.getElem?_map] at hd
  cases z : (List.range n)[i]? with
  | none => rw [z] at hd; cases hd
  | some k =>
    rw [z] at hd
    have : k = i := by
      have := List.getElem?_eq_some_iff.mp z
      obtain ⟨_, h⟩ := this
      simpa using h.symm
    subst this
    cases hd
    exact ⟨S1, Gr.refl s1, .int _⟩
theorem i_range1 {tg : PySem.Expr} {fs : EvL} {p : Pos} (hg : Gl X "range") (hm : X.mg "range" = none) (ha : PA X [a] (tAW c E fs)) (hs : starEach [a] X.env = [(false, eval a X.env)] := by rfl) : PI X tg (.Call (.Name "range" p) [a] [] pos) (tI c false E (iRng fs)) :=
  pi_imp (pi_range1 hg hm ha hs) fun σ H R ⟨η, S, n, r, d, al⟩ => ⟨η, S, n, r, d, all_mono (all_bind.mp al) (fun ds k q vs H1 S1 g1 d1 h1 => by
    split at q
    · split at q
      · obtain ⟨v, rfl, hv⟩ := h1.one
        exact ⟨_, by rw [hv.int], by omega, by omega, q _ H1 S1 g1 d1 (itok_range (by simp))⟩
      · exact q.elim
    · exact q.elim) fun _ _ t => t⟩
theorem i_range2 {tg : PySem.Expr} {fs : EvL} {p : Pos} (hg : Gl X "range") (hm : X.mg "range" = none) (ha : PA X [a, b] (tAW c E fs)) (hs : starEach [a, b] X.env = [(false, eval a X.env), (false, eval b X.env)] := by rfl) (hs2 : starEach [b] X.env = [(false, eval b X.env)] := by rfl) :
    PI X tg (.Call (.Name "range" p) [a, b] [] pos) (tI c false E (iRngB fs)) :=
  pi_imp (pi_range2 hg hm ha hs hs2) fun σ H R ⟨η, S, n, r, d, al⟩ => ⟨η, S, n, r, d, all_mono (all_bind.mp al) (fun ds k q vs H1 S1 g1 d1 h1 => by
    split at q
    · split at q
      · obtain ⟨v, w, rfl, hv, hw⟩ := h1.two
        exact ⟨_, _, by rw [hv.int, hw.int], ⟨by omega, by omega, by omega, by omega⟩, q _ H1 S1 g1 d1 (itok_range rfl)⟩
      · exact q.elim
    · exact q.elim) fun _ _ t => t⟩
/-- a list, a tuple, a text -/
def itemsOf : Val → Option (List Val)
  | .lst xs => some xs
  | .tup xs => some xs
  | .str z => some (z.cps.toList.map fun k => .str ⟨#[k]⟩)
  | _ => none
def iOf (f : Ev) : EvL := fun η => (f η).bind fun d => ofO (itemsOf d)
theorem itok_list {S : Hp} {p : Addr} {xs : List V} {ds : List Val} (h : SqL c.K S p xs) (hd : DVs c.K c.cl S xs ds) : ItOk c false S (Itl c.K p) ds := by
  have hl := hd.len
  refine ⟨fun i H S1 s0 s1 hi => ⟨xs, xs[i]'(by omega), Same.seq (s0.trans s1) h, by simp⟩, fun H S1 s0 s1 => ⟨xs, Same.seq (s0.trans s1) h, by omega⟩, fun i H S1 x H' s0 s1 y d e => ?_⟩
  obtain ⟨rfl, y⟩ := y
  obtain ⟨v, h1, h2⟩ := hd.get e
  have := y xs (Same.seq (s0.trans s1) h)
  rw [h1] at this
  cases this
  exact ⟨S1, Gr.refl s1, h2.mono s0⟩
theorem itok_tup {S : Hp} {p : Addr} {xs : List V} {ds : List Val} (h : SqT c.K S p xs) (hd : DVs c.K c.cl S xs ds) : ItOk c false S (Itt c.K p) ds := by
  have hl := hd.len
  refine ⟨fun i H S1 s0 s1 hi => ⟨xs, xs[i]'(by omega), sqt_same (s0.trans s1) h, by simp⟩, fun H S1 s0 s1 => ⟨xs, sqt_same (s0.trans s1) h, by omega⟩, fun i H S1 x H' s0 s1 y d e => ?_⟩
  obtain ⟨rfl, y⟩ := y
  obtain ⟨v, h1, h2⟩ := hd.get e
  have := y xs (sqt_same (s0.trans s1) h)
  rw [h1] at this
  cases this
  exact ⟨S1, Gr.refl s1, h2.mono s0⟩
theorem itok_str {S : Hp} {z : Str} : ItOk c false S (Its z) (z.cps.toList.map fun k => .str ⟨#[k]⟩) := by
  refine ⟨fun i H S1 s0 s1 hi => (by simpa using hi : i < z.cps.size), fun H S1 s0 s1 => (by simp [Its]), fun i H S1 x H' s0 s1 y d e => ?_⟩
  obtain ⟨rfl, k, hk, rfl⟩ := y
  rw [List.getElem?_map, Array.getElem?_toList, hk] at e
  cases e
  exact ⟨S1, Gr.refl s1, .str _⟩
end
end EV
end
section
set_option Elab.async false
set_option linter.all false
set_option maxRecDepth 100000
set_option maxHeartbeats 4000000
/-! Iterators, comprehensions. -/
namespace EV
open PySem PySem.Spec PyProof.Rows L2 XK
section
variable {X : Cx} {c : Ct} {E : L2.St → XK} {a b tg : PySem.Expr} {f g : Ev} {pos : Pos} {m : Sm}
theorem it_list {pins : List (Addr × Obj)} {σ : L2.St} {H : Hp} {s : Shared} {R : It → Hp → Prop} {p : Addr} {xs : List V} (I : Inv X pins σ H s) (h : SqL X.K H p xs) (q : R (Itl X.K p) H) : wpAny (model X.prog X.w) X.A (pyIter (.ref p)) (PIE X pins σ tg R) X.xe s := by
  obtain ⟨its, rv, pl, hz⟩ := I.list h
  exact wpAny_pyIter_list pl.isList (pi_one (tk := s.toks) I _ (turn_list p _) ⟨_, Heap.get?_push_size _ rfl, rfl, rfl⟩ q)
theorem it_tup {pins : List (Addr × Obj)} {σ : L2.St} {H : Hp} {s : Shared} {R : It → Hp → Prop} {p : Addr} {xs : List V} (I : Inv X pins σ H s) (h : SqT X.K H p xs) (q : R (Itt X.K p) H) : wpAny (model X.prog X.w) X.A (pyIter (.ref p)) (PIE X pins σ tg R) X.xe s := by
  obtain ⟨its, rv, pl, hz⟩ := I.tuple h
  exact wpAny_pyIter_tuple (show s.heap.IsTuple p its.toArray from pl) (pi_one (tk := s.toks) I _ (turn_tuple p _) ⟨_, Heap.get?_push_size _ rfl, rfl, rfl⟩ q)
theorem it_str {pins : List (Addr × Obj)} {σ : L2.St} {H : Hp} {s : Shared} {R : It → Hp → Prop} {z : Str} {t : Tok} (I : Inv X pins σ H s) (q : R (Its z) H) : wpAny (model X.prog X.w) X.A (pyIter (.str z t)) (PIE X pins σ tg R) X.xe s := by
  by_cases ha : z.cps.all (· < 128) = true
  · exact wpAny_pyIter_ascii ha (pi_one (tk := s.toks) I _ (turn_str _ z t "str_ascii_iterator" (.inl rfl)) ⟨_, Heap.get?_push_size _ rfl, rfl, rfl⟩ q)
  · exact wpAny_pyIter_wide (Bool.eq_false_iff.mpr ha) (pi_one (tk := s.toks) I _ (turn_str _ z t "str_iterator" (.inr rfl)) ⟨_, Heap.get?_push_size _ rfl, rfl, rfl⟩ q)
theorem i_of (hK : X.K = c.K) (h : PE X a (tE c E f)) : PI X tg a (tI c false E (iOf f)) := by
  refine ⟨fun pins s σ H R I ⟨η, S, n, r, d, al⟩ => ?_⟩
  refine thn (h.run pins s σ H (fun x H1 => ∃ S1 k d1, Gd c.tb c.dr H S H1 S1 ∧ DrOk c.dr H1 k ∧ DV c.K c.cl S1 x d1 ∧ ∃ ds, itemsOf d1 = some ds ∧ ∀ J H' S', Gd c.tb c.dr H S H' S' → DrOk c.dr H' k → ItOk c false S' J ds → R J H') I
    ⟨η, S, n, r, d, all_mono (all_bind.mp al) (fun d1 k q v H1 S1 g1 dd h1 => ⟨S1, k, d1, g1, dd, h1, all_ofO.mp q⟩) fun _ _ t => t⟩) fun v s1 ⟨x, H1, I1, r1, S1, k, d1, g1, dd, h1, ds, e, q⟩ => ?_
  have s1' := (r.grow g1).sub
  cases h1 with
  | lst hl hd =>
    cases e
    cases r1
    exact it_list I1 (by rw [hK]; exact Same.seq s1' hl) (by rw [hK]; exact q _ H1 S1 g1 dd (itok_list hl hd))
  | tup hl hd =>
    cases e
    cases r1
    exact it_tup I1 (by rw [hK]; exact (hl.mono s1').sq) (by rw [hK]; exact q _ H1 S1 g1 dd (itok_tup hl.sq hd))
  | str z =>
    cases e
    obtain ⟨t, rfl⟩ := r1
    exact it_str I1 (q _ H1 S1 g1 dd itok_str)
  | _ => cases e
/-- enumerate -/
def pairs (ds : List Val) : List Val := (List.range ds.length).zipWith (fun k d => .tup [.int (k : Nat), d]) ds
def iEnuL (fs : EvL) : EvL := fun η => (fs η).bind fun xs => match xs with | [.lst ds] => .ret (pairs ds) | _ => .bad
def iEnuT (fs : EvL) : EvL := fun η => (fs η).bind fun xs => match xs with | [.tup ds] => .ret (pairs ds) | _ => .bad
def iEnuS (fs : EvL) : EvL := fun η => (fs η).bind fun xs => match xs with | [.str z] => .ret (pairs (z.cps.toList.map fun k => .str ⟨#[k]⟩)) | _ => .bad
theorem pairs_len (ds : List Val) : (pairs ds).length = ds.length := by simp [pairs]
theorem pairs_get {ds : List Val} {i : Nat} {d : Val} (h : (pairs ds)[i]? = some d) : ∃ e, ds[i]? = some e ∧ d = .tup [.int (i : Nat), e] := by
  unfold pairs at h
  rw [List.getElem?_zipWith] at h
  cases z : ds[i]? with
  | none => rw [z] at h; cases w : (List.range ds.length)[i]? <;> rw [w] at h <;> cases h
  | some e =>
    have hi := (List.getElem?_eq_some_iff.mp z).1
    rw [z, List.getElem?_range hi] at h
    cases h
    exact ⟨e, rfl, rfl⟩
theorem pair_new {H S : Hp} {T : Addr} {x : V} {e : Val} {i : Nat} (s : Sub S H) (n : H T = none) (h : DV c.K c.cl S x e) : ∃ S2, Gr H S (upd H T (.tup [.int (i : Nat), x])) S2 ∧ VR c true S2 (.ref T) (.tup [.int (i : Nat), e]) :=
  ⟨_, Gr.alloc s n, DX.tup (SqT.of upd_same) (.cons (.int _) (.cons (h.mono (Sub.new (s.free n))) .nil))⟩
theorem itok_enumL {S : Hp} {p : Addr} {xs : List V} {ds : List Val} (h : SqL c.K S p xs) (hd : DVs c.K c.cl S xs ds) : ItOk c true S (Ite c.K p) (pairs ds) := by
  have hl := hd.len
  refine ⟨fun i H S1 s0 s1 hi => ?_, fun H S1 s0 s1 => ⟨xs, Same.seq (s0.trans s1) h, by rw [pairs_len]; omega⟩, fun i H S1 x H' s0 s1 y d e => ?_⟩
  · rw [pairs_len] at hi
    exact ⟨xs, xs[i]'(by omega), Same.seq (s0.trans s1) h, by simp⟩
  · obtain ⟨T, x, rfl, hT, rfl, y⟩ := y
    obtain ⟨e1, h1, rfl⟩ := pairs_get e
    obtain ⟨v, h2, h3⟩ := hd.get h1
    have := y xs (Same.seq (s0.trans s1) h)
    rw [h2] at this
    cases this
    exact pair_new s1 hT (h3.mono s0)
theorem itok_enumT {S : Hp} {p : Addr} {xs : List V} {ds : List Val} (h : SqT c.K S p xs) (hd : DVs c.K c.cl S xs ds) : ItOk c true S (Iet c.K p xs) (pairs ds) := by
  have hl := hd.len
  refine ⟨fun i H S1 s0 s1 hi => ?_, fun H S1 s0 s1 => ?_, fun i H S1 x H' s0 s1 y d e => ?_⟩
  · rw [pairs_len] at hi
    exact ⟨sqt_same (s0.trans s1) h, by omega⟩
  · exact ⟨sqt_same (s0.trans s1) h, by rw [pairs_len]; omega⟩
  · obtain ⟨T, x, rfl, hT, rfl, y⟩ := y
    obtain ⟨e1, h1, rfl⟩ := pairs_get e
    obtain ⟨v, h2, h3⟩ := hd.get h1
    rw [h2] at y
    cases y
    exact pair_new s1 hT (h3.mono s0)
theorem itok_enumS {S : Hp} {z : Str} : ItOk c true S (Ies z) (pairs (z.cps.toList.map fun k => .str ⟨#[k]⟩)) := by
  refine ⟨fun i H S1 s0 s1 hi => ?_, fun H S1 s0 s1 => ?_, fun i H S1 x H' s0 s1 y d e => ?_⟩
  · rw [pairs_len] at hi
    exact (by simpa using hi : i < z.cps.size)
  · exact (by rw [pairs_len]; simp : (pairs (z.cps.toList.map fun k => Val.str ⟨#[k]⟩)).length = z.cps.size)
  · obtain ⟨T, k, rfl, hT, rfl, y⟩ := y
    obtain ⟨e1, h1, rfl⟩ := pairs_get e
    rw [List.getElem?_map, Array.getElem?_toList, y] at h1
    cases h1
    exact pair_new s1 hT (.str _)
theorem DVs.one {S : Hp} {xs : List V} {d : Val} (h : DVs c.K c.cl S xs [d]) : ∃ v, xs = [v] ∧ DV c.K c.cl S v d := by
  cases h with | cons a b => cases b; exact ⟨_, rfl, a⟩
theorem DVs.two {S : Hp} {xs : List V} {d e : Val} (h : DVs c.K c.cl S xs [d, e]) : ∃ v w, xs = [v, w] ∧ DV c.K c.cl S v d ∧ DV c.K c.cl S w e := by
  cases h with | cons a b => cases b with | cons a' b => cases b; exact ⟨_, _, rfl, a, a'⟩
variable {fs : EvL} {p tpos : Pos} {elts : List PySem.Expr} {kk : Nat}
theorem i_enumL (hK : X.K = c.K) (hg : Gl X "enumerate") (hm : X.mg "enumerate" = none) (ha : PA X [a] (tA c E fs)) (hs : starEach [a] X.env = [(false, eval a X.env)] := by rfl) : PI X (.Tuple elts kk tpos) (.Call (.Name "enumerate" p) [a] [] pos) (tI c true E (iEnuL fs)) :=
  pi_imp (pi_enum hg hm ha hs) fun σ H R ⟨η, S, n, r, d, al⟩ => ⟨η, S, n, r, d, all_mono (all_bind.mp al) (fun ds k q vs H1 S1 g1 d1 h1 => by
    split at q
    · obtain ⟨v, rfl, hv⟩ := h1.one
      cases hv with
      | lst hl hd => exact ⟨_, _, rfl, by rw [hK]; exact Same.seq (r.grow g1).sub hl, by rw [hK]; exact q _ H1 S1 g1 d1 (itok_enumL hl hd)⟩
    · exact q.elim) fun _ _ t => t⟩
theorem i_enumT (hK : X.K = c.K) (hg : Gl X "enumerate") (hm : X.mg "enumerate" = none) (ha : PA X [a] (tA c E fs)) (hs : starEach [a] X.env = [(false, eval a X.env)] := by rfl) : PI X (.Tuple elts kk tpos) (.Call (.Name "enumerate" p) [a] [] pos) (tI c true E (iEnuT fs)) :=
  pi_imp (pi_et hg hm ha hs) fun σ H R ⟨η, S, n, r, d, al⟩ => ⟨η, S, n, r, d, all_mono (all_bind.mp al) (fun ds k q vs H1 S1 g1 d1 h1 => by
    split at q
    · obtain ⟨v, rfl, hv⟩ := h1.one
      cases hv with
      | tup hl hd => exact ⟨_, _, rfl, by rw [hK]; exact (hl.mono (r.grow g1).sub).sq, by rw [hK]; exact q _ H1 S1 g1 d1 (itok_enumT hl.sq hd)⟩
    · exact q.elim) fun _ _ t => t⟩
theorem i_enumS (hg : Gl X "enumerate") (hm : X.mg "enumerate" = none) (ha : PA X [a] (tA c E fs)) (hs : starEach [a] X.env = [(false, eval a X.env)] := by rfl) : PI X (.Tuple elts kk tpos) (.Call (.Name "enumerate" p) [a] [] pos) (tI c true E (iEnuS fs)) :=
  pi_imp (pi_es hg hm ha hs) fun σ H R ⟨η, S, n, r, d, al⟩ => ⟨η, S, n, r, d, all_mono (all_bind.mp al) (fun ds k q vs H1 S1 g1 d1 h1 => by
    split at q
    · obtain ⟨v, rfl, hv⟩ := h1.one
      cases hv with
      | str z => exact ⟨_, rfl, q _ H1 S1 g1 d1 itok_enumS⟩
    · exact q.elim) fun _ _ t => t⟩
/-! ### comprehensions -/
def wipeE (η : Env) : List Nat → Env
  | [] => η
  | v :: vs => (wipeE η vs).set v none
def lcGo (η0 : Env) (g : Val → Env → Option Env) (ft : Env → T Bool) (fe : Ev) : List Val → T (List Val)
  | [] => .ret []
  | d :: r => (ofO (g d η0)).bind fun η1 => (ft η1).hd (fun k => if k = true then (fe η1).hd (fun x => (lcGo η0 g ft fe r).bind fun xs => .ret (x :: xs)) (fun _ => .bad) else lcGo η0 g ft fe r) fun _ => .bad
/-- [fe for g in fl if ft] -/
def eLc (vs : List Nat) (fl : EvL) (g : Val → Env → Option Env) (ft : Env → T Bool) (fe : Ev) : Ev := fun η => (fl η).bind fun ds => if ds.length ≤ 1000000 then (lcGo (wipeE η vs) g ft fe ds).bind fun xs => .ret (.lst xs) else .bad
def noIf : Env → T Bool := fun _ => .ret true
theorem wipe_get {σ : L2.St} {i : Nat} : ∀ {vs : List Nat}, i ∉ vs → (wipe σ vs)[i]? = σ[i]?
  | [], _ => rfl
  | v :: vs, h => by
    have h' : ¬ i = v ∧ i ∉ vs := by simpa using h
    show ((wipe σ vs).set v none)[i]? = _
    rw [List.getElem?_set_ne (Ne.symm h'.1), wipe_get h'.2]
theorem wipeE_get {η : Env} {i : Nat} : ∀ {vs : List Nat}, i ∉ vs → (wipeE η vs)[i]? = η[i]?
  | [], _ => rfl
  | v :: vs, h => by
    have h' : ¬ i = v ∧ i ∉ vs := by simpa using h
    show ((wipeE η vs).set v none)[i]? = _
    rw [List.getElem?_set_ne (Ne.symm h'.1), wipeE_get h'.2]
theorem wipeE_in {η : Env} {i : Nat} {d : Val} : ∀ {vs : List Nat}, (wipeE η vs)[i]? = some (some d) → i ∉ vs
  | [], _ => by simp
  | v :: vs, h => by
    rcases get_set (show ((wipeE η vs).set v none)[i]? = some (some d) from h) with ⟨_, _, e⟩ | ⟨e, h⟩
    · cases e
    · simp only [List.mem_cons, not_or]
      exact ⟨e, wipeE_in h⟩
theorem wipeE_len (η : Env) : ∀ vs : List Nat, (wipeE η vs).length = η.length
  | [] => rfl
  | v :: vs => by unfold wipeE; rw [List.length_set, wipeE_len η vs]
theorem Rel.wipe {σ : L2.St} {H S : Hp} {η : Env} {vs : List Nat} (r : Rel c σ H S η) (ho : ∀ i ∈ vs, i ∉ c.ow) (hd : c.dr = none ∨ c.dsl ∉ vs) : Rel c (wipe σ vs) H S (wipeE η vs) := by
  refine ⟨r.g0, by rw [wipe_length, wipeE_len, r.len], fun i d e n => ?_, fun i d e n => ?_, fun i j d e a hi hj hij h1 h2 h3 => ?_, fun p cc e => ?_, r.nt, r.tabs⟩
  · have hi := wipeE_in e
    rw [wipeE_get hi] at e
    rw [wipe_get hi]
    exact r.loc i d e n
  · have hi := wipeE_in e
    rw [wipeE_get hi] at e
    rw [wipe_get hi]
    exact r.own i d e n
  · have i1 := wipeE_in h1
    have i2 := wipeE_in h2
    rw [wipeE_get i1] at h1
    rw [wipeE_get i2] at h2
    rw [wipe_get i1] at h3
    rw [wipe_get i2]
    exact r.dis i j d e a hi hj hij h1 h2 h3
  · obtain ⟨h1, h2, h3, h4, h5⟩ := r.drw p cc e
    refine ⟨h1, h2, h3, h4, ?_⟩
    rcases hd with hd | hd
    · rw [hd] at e; cases e
    · rw [wipe_get hd]; exact h5
theorem wipe_eq {σ σ' : L2.St} (hl : σ'.length = σ.length) : ∀ {vs : List Nat}, (∀ j, j ∉ vs → σ'[j]? = (L2.wipe σ vs)[j]?) → L2.wipe σ' vs = L2.wipe σ vs := by
  intro vs h
  apply List.ext_getElem?
  intro i
  by_cases hi : i ∈ vs
  · have key : ∀ (τ : L2.St) (ws : List Nat), i ∈ ws → i < τ.length → (L2.wipe τ ws)[i]? = some none := by
      intro τ ws
      induction ws with
      | nil => intro z; cases z
      | cons w ws ih =>
        intro hm hl
        show ((L2.wipe τ ws).set w none)[i]? = _
        by_cases e : w = i
        · subst e
          exact List.getElem?_set_self (by rw [wipe_length]; exact hl)
        · rw [List.getElem?_set_ne e]
          rcases List.mem_cons.mp hm with q | q
          · exact absurd q.symm e
          · exact ih q hl
    by_cases hlt : i < σ.length
    · rw [key σ vs hi hlt, key σ' vs hi (by omega)]
    · rw [List.getElem?_eq_none (by rw [wipe_length]; omega), List.getElem?_eq_none (by rw [wipe_length]; omega)]
  · rw [wipe_get hi, h i hi]
/-- a comprehension over such an iterator -/
theorem lc_ix {J : It} {n : Nat} {g : TG} {tt : TT} {te : TE} {vs : List Nat} {σ : L2.St} {H1 : Hp} {D : Addr} {Qd : Hp → Prop} (Pv : Nat → Hp → Prop) (h0 : Pv 0 (upd H1 D (.lst []))) (hgo : ∀ i H, i < n → Pv i H → J.go i H) (hst : ∀ H, Pv n H → J.stop n H)
    (hs : ∀ i H x H', i < n → Pv i H → J.yld i H x H' → g x (L2.wipe σ vs) H' fun σ2 H2 => L2.wipe σ2 vs = L2.wipe σ vs ∧ tt σ2 H2 fun b H3 => if b = true then te σ2 H3 fun y H4 => ∃ acc, H4 D = some (.lst acc) ∧ acc.length < sizeLine ∧ Pv (i + 1) (upd H4 D (.lst (acc ++ [y]))) else Pv (i + 1) H3) (hd : ∀ H, Pv n H → Qd H) :
    ∃ W : Nat → Nat → Hp → Prop, (∃ m, W 0 m (upd H1 D (.lst []))) ∧ ∀ i m H, W i m H → (J.stop i H ∧ Qd H) ∨ (J.go i H ∧ ∃ Nx : Hp → Prop, (∀ H', Nx H' → ∃ m', m' < m ∧ W (i + 1) m' H') ∧ ∀ x H', J.yld i H x H' → g x (L2.wipe σ vs) H' fun σ2 H2 => L2.wipe σ2 vs = L2.wipe σ vs ∧
      tt σ2 H2 fun b H3 => if b = true then te σ2 H3 fun y H4 => ∃ acc, H4 D = some (.lst acc) ∧ acc.length < sizeLine ∧ Nx (upd H4 D (.lst (acc ++ [y]))) else Nx H3) := by
  refine ⟨fun i m H => m = n - i ∧ i ≤ n ∧ Pv i H, ⟨n, by simp, Nat.zero_le _, h0⟩, ?_⟩
  rintro i m H ⟨rfl, hi, p⟩
  by_cases hlt : i < n
  · exact .inr ⟨hgo i H hlt p, Pv (i + 1), fun H' p' => ⟨n - (i + 1), by omega, rfl, hlt, p'⟩, fun x H' y => hs i H x H' hlt p y⟩
  · obtain rfl : i = n := by omega
    exact .inl ⟨hst H p, hd H p⟩
/-- an iterator of an expression's own context: own lists may be walked -/
structure ItOkC (c : Ct) (w : Bool) (H0 S0 : Hp) (J : It) (ds : List Val) : Prop where
  go : ∀ i H S1, Gd c.tb c.dr H0 S0 H S1 → i < ds.length → J.go i H
  stop : ∀ H S1, Gd c.tb c.dr H0 S0 H S1 → J.stop ds.length H
  yld : ∀ i H S1 x H', Gd c.tb c.dr H0 S0 H S1 → J.yld i H x H' → ∀ d, ds[i]? = some d → ∃ S2, Gr H S1 H' S2 ∧ VR c w S2 x d
def tIc (c : Ct) (w : Bool) (E : L2.St → XK) (f : EvL) : TI := fun σ H R => ∃ (η : Env) (S : Hp) (n : Nat), Rel c σ H S η ∧ DrOk c.dr H n ∧
  All (f η) n (fun ds m => ∀ J H' S', Gd c.tb c.dr H S H' S' → DrOk c.dr H' m → ItOkC c w H' S' J ds → R J H') (fun e m => Thrown c (E σ) e H S m)
theorem i_c {w : Bool} {fl : EvL} (h : PI X tg a (tI c w E fl)) : PI X tg a (tIc c w E fl) :=
  pi_imp h fun σ H R ⟨η, S, n, r, d, al⟩ => ⟨η, S, n, r, d, all_mono al (fun ds k q J H1 S1 g1 d1 ok => q J H1 S1 g1 d1 ⟨fun i H2 S2 g hi => ok.go i H2 S2 g.up g.sub hi, fun H2 S2 g => ok.stop H2 S2 g.up g.sub, fun i H2 S2 x H' g y => ok.yld i H2 S2 x H' g.up g.sub y⟩) fun _ _ t => t⟩
theorem i_ofW (hK : X.K = c.K) (h : PE X a (tW c E f)) : PI X tg a (tIc c false E (iOf f)) := by
  refine ⟨fun pins s σ H R I ⟨η, S, n, r, d, al⟩ => ?_⟩
  refine thn (h.run pins s σ H (fun x H1 => ∃ S1 k d1, Gd c.tb c.dr H S H1 S1 ∧ DrOk c.dr H1 k ∧ DW c S1 H1 x d1 ∧ ∃ ds, itemsOf d1 = some ds ∧ ∀ J H' S', Gd c.tb c.dr H S H' S' → DrOk c.dr H' k → ItOkC c false H' S' J ds → R J H') I
    ⟨η, S, n, r, d, all_mono (all_bind.mp al) (fun d1 k q v H1 S1 g1 dd h1 => ⟨S1, k, d1, g1, dd, h1, all_ofO.mp q⟩) fun _ _ t => t⟩) fun v s1 ⟨x, H1, I1, r1, S1, k, d1, g1, dd, h1, ds, e, q⟩ => ?_
  have s1' := (r.grow g1).sub
  have cv : ∀ {J : It}, ItOk c false S1 J ds → ItOkC c false H1 S1 J ds := fun ok => ⟨fun i H2 S2 g hi => ok.go i H2 S2 g.up g.sub hi, fun H2 S2 g => ok.stop H2 S2 g.up g.sub, fun i H2 S2 x H' g y => ok.yld i H2 S2 x H' g.up g.sub y⟩
  rcases h1 with h1 | ⟨p, rfl, o⟩
  · cases h1 with
    | lst hl hd =>
      cases e
      cases r1
      exact it_list I1 (by rw [hK]; exact Same.seq s1' hl) (by rw [hK]; exact q _ H1 S1 g1 dd (cv (itok_list hl hd)))
    | tup hl hd =>
      cases e
      cases r1
      exact it_tup I1 (by rw [hK]; exact (hl.mono s1').sq) (by rw [hK]; exact q _ H1 S1 g1 dd (cv (itok_tup hl.sq hd)))
    | str z =>
      cases e
      obtain ⟨t, rfl⟩ := r1
      exact it_str I1 (q _ H1 S1 g1 dd (cv itok_str))
    | _ => cases e
  · obtain ⟨o1, o2, o3, o4⟩ := o
    rcases o4 with ⟨xs, es, rfl, hH, hd⟩ | ⟨kvs, es, rfl, _⟩
    · cases e
      cases r1
      have hl := hd.len
      refine it_list I1 (SqL.of hH) (q _ H1 S1 g1 dd ?_)
      have at2 : ∀ {H2 S2 : Hp}, Gd c.tb c.dr H1 S1 H2 S2 → SqL X.K H2 p xs := fun g => SqL.of (g.keep p _ (fun q cc e => (o3 q cc e).1) (fun _ z => by cases z) hH)
      refine ⟨fun i H2 S2 g hi => ⟨xs, xs[i]'(by omega), at2 g, by simp⟩, fun H2 S2 g => ⟨xs, at2 g, by omega⟩, fun i H2 S2 x H' g y d e => ?_⟩
      obtain ⟨rfl, y⟩ := y
      obtain ⟨v, h1, h2⟩ := hd.get e
      have := y xs (at2 g)
      rw [h1] at this
      cases this
      exact ⟨S2, Gr.refl g.sub, h2.mono g.up⟩
    · cases e
theorem lc_read {wq : Bool} {vs0 : List Nat} {fl : EvL} {g : Val → Env → Option Env} {ft : Env → T Bool} {fe : Ev} (ho : ∀ i ∈ vs0, i ∉ c.ow) (hdr : c.dr = none ∨ c.dsl ∉ vs0) {σ : L2.St} {H : Hp} {Q : VK} (h : tN c E (eLc vs0 fl g ft fe) σ H Q) :
    tLc (tIc c wq E fl) (tG c wq vs0 g) (tT c E00 ft) (tE c E00 fe) vs0 σ H Q := by
    obtain ⟨η, S, n, r, d, al⟩ := h
    refine ⟨η, S, n, r, d, all_mono (all_bind.mp al) (fun ds k q J H1 S1 g1 d1 ok => ?_) fun _ _ t => t⟩
    intro D hD
    have r1 := r.grow g1
    have f0 := own_new (xs := []) (ds := []) r1 hD .nil
    have hDd := f0.2.2.1
    split at q
    case isFalse => exact q.elim
    rename_i hlen
    have rw1 : ∀ {H' S' : Hp}, Gd c.tb c.dr H1 S1 H' S' → Rel c (L2.wipe σ vs0) H' S' (wipeE η vs0) := fun g => (r1.grow g).wipe ho hdr
    have gD : ∀ {H' S' : Hp} {o : HO}, Gd c.tb c.dr H1 S1 H' S' → S' D = none → (H' D = none ∨ ∃ xs, H' D = some (.lst xs)) → Gd c.tb c.dr H1 S1 (upd H' D o) S' := fun {H' S' o} g hn hHD => by
      refine ⟨fun a u n nt h => ?_, g.up, fun a u h => ?_, g.new, fun a u h => ?_, fun P q t => hHD.elim (fun z => tab_new (g.tab P q t) z) fun ⟨xs, z⟩ => tab_updL (g.tab P q t) z, g.nt⟩
      · rw [upd_ne (ne_of_none h hD)]; exact g.keep a u n nt h
      · have : a ≠ D := fun e => by rw [e, hn] at h; cases h
        rw [upd_ne this]; exact g.sub a u h
      · rw [upd_ne (ne_of_none h hD)]; exact g.dom a u h
    refine lc_ix (n := ds.length) (fun i H' => ∃ (S' : Hp) (k' : Nat) (vs : List V) (acc : List Val), Gd c.tb c.dr H1 S1 H' S' ∧ DrOk c.dr H' k' ∧ H' D = some (.lst vs) ∧ DVs c.K c.cl S' vs acc ∧ S' D = none ∧ acc.length ≤ i ∧ i ≤ ds.length ∧
        All (lcGo (wipeE η vs0) g ft fe (ds.drop i)) k' (fun xs m => ∀ a H' S', Gd c.tb c.dr H S H' S' → DrOk c.dr H' m → H a = none → OwnAt c S' H' a (.lst (acc ++ xs)) → Q (.ref a) H') (fun e m => Thrown c (E σ) e H S m))
      ⟨S1, k, [], [], ?_, ?_, upd_same, .nil, r1.sub.free hD, Nat.le_refl _, Nat.zero_le _, ?_⟩ ?_ ?_ ?_ ?_
    · exact gD (Gd.refl r1.sub) (r1.sub.free hD) (.inl hD)
    · exact d1.mut hDd
    · exact all_mono (all_bind.mp q) (fun xs m q => q) fun _ _ t => t
    · rintro i H' hi ⟨S', k', vs, acc, g', d', hH, hv, hn, hl, hle, q'⟩
      exact ok.go i H' S' g' hi
    · rintro H' ⟨S', k', vs, acc, g', d', hH, hv, hn, hl, hle, q'⟩
      exact ok.stop H' S' g'
    · rintro i H' x H2 hi ⟨S', k', vs, acc, g', d', hH, hv, hn, hl, hle, q'⟩ y
      have hd : ds[i]? = some ds[i] := by simp [hi]
      obtain ⟨S2, g2, h2⟩ := ok.yld i H' S' x H2 g' y _ hd
      rw [List.drop_eq_getElem_cons hi] at q'
      obtain ⟨η1, e1, q1⟩ := all_ofO.mp (all_bind.mp q')
      have G2 := g'.trans g2.d
      have d2 := d'.sub g2.keep
      have hn2 : ∀ {Ha Sa : Hp}, Gd c.tb c.dr H2 S2 Ha Sa → Sa D = none ∧ Ha D = some (.lst vs) := fun {Ha Sa} g => by
        have e2 : H2 D = some (.lst vs) := g2.keep _ _ hH
        refine ⟨?_, g.keep D _ (fun p cc e => (hDd p cc e).1) (fun _ z => by cases z) e2⟩
        cases z : Sa D with
        | none => rfl
        | some u =>
          rcases g.new D u z with w | w
          · rcases g2.new D u w with w | w
            · rw [hn] at w; cases w
            · rw [hH] at w; cases w
          · rw [e2] at w; cases w
      refine ⟨_, η1, S2, ds[i], rw1 G2, h2, e1, fun σ2 r2 hj => ⟨wipe_eq (hj.2.trans (wipe_length _ _)) fun j h => (hj.1 j h).1, ?_⟩⟩
      · refine ⟨η1, S2, k', r2, d2, all_mono (all_hd.mp q1) (fun b m q H3 S3 g3 d3 => ?_) fun e m q => (show False from q).elim⟩
        have G3 := G2.trans g3
        cases b with
        | false =>
          rw [if_neg Bool.false_ne_true] at q
          dsimp only
          rw [if_neg Bool.false_ne_true]
          obtain ⟨n3, h3⟩ := hn2 g3
          exact ⟨S3, m, vs, acc, G3, d3, h3, (hv.mono g2.up).mono g3.up, n3, Nat.le_succ_of_le hl, hi, q⟩
        | true =>
          rw [if_pos rfl] at q
          dsimp only
          rw [if_pos rfl]
          refine ⟨η1, S3, m, r2.grow g3, d3, all_mono (all_hd.mp q) (fun x m q y H4 S4 g4 d4 h4 => ?_) fun e m q => (show False from q).elim⟩
          obtain ⟨n4, h4'⟩ := hn2 (g3.trans g4)
          have hvl := hv.len
          refine ⟨vs, h4', by rw [sizeLine_eq]; omega, S4, m, vs ++ [y], acc ++ [x], gD (G3.trans g4) n4 (.inr ⟨_, h4'⟩), d4.mut hDd, upd_same, (((hv.mono g2.up).mono g3.up).mono g4.up).append (.cons h4 .nil), n4, by rw [List.length_append]; show acc.length + 1 ≤ i + 1; omega, hi, ?_⟩
          exact all_mono (all_bind.mp q) (fun xs m q => by rw [List.append_assoc]; exact q) fun _ _ t => t
    · rintro H' ⟨S', k', vs, acc, g', d', hH, hv, hn, hl, hle, q'⟩
      rw [List.drop_length] at q'
      refine q' D H' S' (g1.trans g') d' ?_ ⟨hn, r1.free0 hD, hDd, .inl ⟨vs, _, rfl, hH, ?_⟩⟩
      · cases z : H D with
        | none => rfl
        | some o => exact absurd hD (g1.dom D o z)
      · rw [List.append_nil]; exact hv
theorem d_lcN {wq : Bool} {elt iter : PySem.Expr} {ifs : List PySem.Expr} {scope : Scope} {own : List (Str × Nat)} {fl : EvL} {g : Val → Env → Option Env} {ft : Env → T Bool} {fe : Ev} (hc : X.calm = true) (hN : X.N.Nodup) (hi : PI X tg iter (tIc c wq E fl)) (ok : BlkOk X.N X.env.scope scope own)
    (ho : ∀ i ∈ own.map (·.2), i ∉ c.ow) (hdr : c.dr = none ∨ c.dsl ∉ own.map (·.2))
    (hg : ∀ (s : Shared) (H : Hp) (C : Addr) (cl : List (Str × Addr)) (fp : List Addr), PG (X.blk s H scope (compEnvC scope cl C X.env) fp) tg (tG c wq (own.map (·.2)) g)) (ht : ∀ (s : Shared) (H : Hp) (C : Addr) (cl : List (Str × Addr)) (fp : List Addr), PTs (X.blk s H scope (compEnvC scope cl C X.env) fp) ifs (tT c E00 ft))
    (he : ∀ (s : Shared) (H : Hp) (C : Addr) (cl : List (Str × Addr)) (fp : List Addr), PE (X.blk s H scope (compEnvC scope cl C X.env) fp) elt (tE c E00 fe)) (hs : ∀ x, foldedSetIterable iter X.env x = pure x := by intro _; rfl) :
    PE X (.ListComp elt [⟨tg, iter, ifs, 0⟩] scope pos) (tN c E (eLc (own.map (·.2)) fl g ft fe)) :=
  pe_imp (pe_lc hc hN hi ok hg ht he hs) fun _ _ _ h => lc_read ho hdr h
/-- shared at once, by readings -/
theorem sh_read {f : Ev} {σ : L2.St} {H : Hp} {Q : VK} (h : tE c E f σ H Q) : tN c E f σ H Q := by
  obtain ⟨η, S, n, rl, dr, al⟩ := h
  exact ⟨η, S, n, rl, dr, all_mono al (fun d m q p H1 S1 g1 dr1 hp ho => by
    obtain ⟨h1, h2, h3, h4⟩ := ho
    have key : ∀ o, (∀ ps, o ≠ .tbl ps) → H1 p = some o → Gd c.tb c.dr H S H1 (upd S1 p o) := fun o ht e => by
      refine ⟨g1.keep, g1.up.trans (Sub.new h1), fun a u z => ?_, fun a u z => ?_, g1.dom, g1.tab, fun z => (g1.nt z).new ht⟩
      · rcases upd_none z with ⟨rfl, rfl⟩ | ⟨_, z⟩
        · exact e
        · exact g1.sub a u z
      · rcases upd_none z with ⟨rfl, rfl⟩ | ⟨_, z⟩
        · exact .inr hp
        · exact g1.new a u z
    rcases h4 with ⟨xs, ds, rfl, e, hd⟩ | ⟨kvs, ds, rfl, e, hd⟩
    · exact q _ H1 _ (key _ (fun _ z => by cases z) e) dr1 (DV.newL h1 hd)
    · exact q _ H1 _ (key _ (fun _ z => by cases z) e) dr1 (.dic upd_same (hd.mono (Sub.new h1)))) fun _ _ t => t⟩
/-- name = [..] on one line, the name a local: shared, own -/
theorem s_setLc {wq : Bool} {i : Nat} {y : Str} {py spos : Pos} {elt iter : PySem.Expr} {ifs : List PySem.Expr} {scope : Scope} {own : List (Str × Nat)} {fl : EvL} {g : Val → Env → Option Env} {ft : Env → T Bool} {fe : Ev} (hio : i ∉ c.ow) (hid : c.dr = none ∨ i ≠ c.dsl) (hc : X.calm = true) (hN : X.N.Nodup) (hy : X.N[i]? = some y) (hyl : X.env.scope.names.lookup y = some .local)
    (hsw : swapsWith (.ListComp elt [⟨tg, iter, ifs, 0⟩] scope pos) (some (.Name y py)) spos.line X.env = pure true) (hi : PI X tg iter (tIc c wq E fl)) (ok : BlkOk X.N X.env.scope scope own) (ho : ∀ i ∈ own.map (·.2), i ∉ c.ow) (hdr : c.dr = none ∨ c.dsl ∉ own.map (·.2))
    (hg : ∀ (s : Shared) (H : Hp) (C : Addr) (cl : List (Str × Addr)) (fp : List Addr), PG (X.blk s H scope (compEnvC scope cl C X.env) fp) tg (tG c wq (own.map (·.2)) g)) (ht : ∀ (s : Shared) (H : Hp) (C : Addr) (cl : List (Str × Addr)) (fp : List Addr), PTs (X.blk s H scope (compEnvC scope cl C X.env) fp) ifs (tT c E00 ft))
    (he : ∀ (s : Shared) (H : Hp) (C : Addr) (cl : List (Str × Addr)) (fp : List Addr), PE (X.blk s H scope (compEnvC scope cl C X.env) fp) elt (tE c E00 fe)) (hs : ∀ x, foldedSetIterable iter X.env x = pure x := by intro _; rfl) :
    PS X (.Assign [.Name y py] (.ListComp elt [⟨tg, iter, ifs, 0⟩] scope pos) spos) (tS c E (mSet i (eLc (own.map (·.2)) fl g ft fe))) :=
  ps_imp (ps_setLc hc hN hy hyl hsw hi ok hg ht he hs) fun _ _ _ h => lc_read (Q := fun v H => gName i v _ H _) ho hdr (sh_read (asg_read hio hid h))
theorem s_ownLc {wq : Bool} {i : Nat} {y : Str} {py spos : Pos} {elt iter : PySem.Expr} {ifs : List PySem.Expr} {scope : Scope} {own : List (Str × Nat)} {fl : EvL} {g : Val → Env → Option Env} {ft : Env → T Bool} {fe : Ev} (hio : i ∈ c.ow) (hid : c.dr = none ∨ i ≠ c.dsl) (hc : X.calm = true) (hN : X.N.Nodup) (hy : X.N[i]? = some y) (hyl : X.env.scope.names.lookup y = some .local)
    (hsw : swapsWith (.ListComp elt [⟨tg, iter, ifs, 0⟩] scope pos) (some (.Name y py)) spos.line X.env = pure true) (hi : PI X tg iter (tIc c wq E fl)) (ok : BlkOk X.N X.env.scope scope own) (ho : ∀ i ∈ own.map (·.2), i ∉ c.ow) (hdr : c.dr = none ∨ c.dsl ∉ own.map (·.2))
    (hg : ∀ (s : Shared) (H : Hp) (C : Addr) (cl : List (Str × Addr)) (fp : List Addr), PG (X.blk s H scope (compEnvC scope cl C X.env) fp) tg (tG c wq (own.map (·.2)) g)) (ht : ∀ (s : Shared) (H : Hp) (C : Addr) (cl : List (Str × Addr)) (fp : List Addr), PTs (X.blk s H scope (compEnvC scope cl C X.env) fp) ifs (tT c E00 ft))
    (he : ∀ (s : Shared) (H : Hp) (C : Addr) (cl : List (Str × Addr)) (fp : List Addr), PE (X.blk s H scope (compEnvC scope cl C X.env) fp) elt (tE c E00 fe)) (hs : ∀ x, foldedSetIterable iter X.env x = pure x := by intro _; rfl) :
    PS X (.Assign [.Name y py] (.ListComp elt [⟨tg, iter, ifs, 0⟩] scope pos) spos) (tS c E (mSet i (eLc (own.map (·.2)) fl g ft fe))) :=
  ps_imp (ps_setLc hc hN hy hyl hsw hi ok hg ht he hs) fun _ _ _ h => lc_read (Q := fun v H => gName i v _ H _) ho hdr (own_read hio hid h)
end
end EV
end
section
set_option Elab.async false
set_option linter.all false
set_option maxRecDepth 100000
set_option maxHeartbeats 4000000
/-! Defs and their calls. -/
namespace EV
open PySem PySem.Spec PyProof.Rows L2 XK
/-! ### promises -/
def toR : T Out → R
  | .ret (.rt d) => .ret d
  | .ret (.nx _) => .ret .non
  | .ret (.ex e _) => .err e
  | .err e => .err e
  | _ => .bad
def toT (t : T Out) : T Val := t.bind fun o => match o with
  | .rt d => .ret d
  | .nx _ => .ret .non
  | .ex e _ => .err e
  | _ => .bad
def envP (n : Nat) (ds : List Val) : Env := ds.map some ++ List.replicate (n - ds.length) none
def envD (n : Nat) (ds : List Val) : Env := none :: (ds.map some ++ List.replicate (n - 1 - ds.length) none)
/-- a def of n parameters and N names -/
def runP (n N : Nat) (m : Sm) (ds : List Val) : R := if ds.length = n then toR (m (envP N ds)) else .bad
/-- a def whose first parameter is the state of the draws; n more parameters -/
def runD (n N : Nat) (m : Sm) (ds : List Val) : T Val := if ds.length = n then toT (m (envD N ds)) else .bad
/-- what a def without draws promises: f tells its answer by its arguments' data -/
def spP (K : PySem.W.Frag) (cl : Str → Option Addr) (tb : List (Addr × Str)) (f : List Val → R) : Sp := fun vs H Q E => ∃ (S : Hp) (ds : List Val), Sub S H ∧ NoT S ∧ LamX.Tabs tb H ∧ DVs K cl S vs ds ∧ match f ds with
  | .ret d => ∀ v H' S', Gd tb none H S H' S' → DV K cl S' v d → Q v H'
  | .err e => ∀ (C dx : Addr) (v : V) (H' S' : Hp), Gd tb none H S H' S' → cl e.C = some C → H' dx = some (.xd [(e.f, v)]) → H dx = none → DV K cl S' v e.x → E (.ref C) (some dx) H'
  | .bad => False
def spD (K : PySem.W.Frag) (cl : Str → Option Addr) (tb : List (Addr × Str)) (f : List Val → T Val) : Sp := fun vs H Q _ => ∃ (p cc : Addr) (S : Hp) (vs' : List V) (ds : List Val) (n : Nat), vs = .ref p :: vs' ∧ Sub S H ∧ NoT S ∧ LamX.Tabs tb H ∧ S p = none ∧ cc ≠ p ∧ DVs K cl S vs' ds ∧ DrOk (some (p, cc)) H n ∧
  All (f ds) n (fun d m => ∀ v H' S', Gd tb (some (p, cc)) H S H' S' → DrOk (some (p, cc)) H' m → DV K cl S' v d → Q v H') (fun _ _ => False)
theorem drNone {H : Hp} {n : Nat} : DrOk none H n := fun _ _ e => nomatch e
section
variable {X : Cx} {c : Ct} {E : L2.St → XK} {a b tg : PySem.Expr} {f g : Ev} {pos p : Pos} {m : Sm} {es : List PySem.Expr} {fs : EvL} {fa : Addr} {fd : FuncData} {ps ks : List Str} {k : Nat} {x : Str} {F : List Val → R}
def eCall (F : List Val → R) (fs : EvL) : Ev := fun η => (fs η).bind fun xs => ofR (F xs)
theorem sp_of {H S : Hp} {vs : List V} {ds : List Val} {n : Nat} {Q : VK} {H0 S0 : Hp} {Ek : XK} (s : Sub S H) (nt : NoT S) (tt : LamX.Tabs c.tb H) (hv : DVs c.K c.cl S vs ds) (dr : DrOk c.dr H n) (g0 : Gd c.tb c.dr H0 S0 H S)
    (q : All (ofR (F ds)) n (fun d m => ∀ v H' S', Gd c.tb c.dr H0 S0 H' S' → DrOk c.dr H' m → DV c.K c.cl S' v d → Q v H') (fun e m => Thrown c Ek e H0 S0 m)) : spP c.K c.cl c.tb F vs H Q Ek := by
  refine ⟨S, ds, s, nt, tt, hv, ?_⟩
  cases z : F ds with
  | ret d =>
    rw [z] at q
    exact fun v H' S' g h => q v H' S' (g0.trans g.lift) (dr.gd g) h
  | err e =>
    rw [z] at q
    exact fun C dx v H' S' g hc hx hn h => q C dx v H' S' (g0.trans g.lift) (dr.gd g) hc hx (by
      cases w : H0 dx with
      | none => rfl
      | some o => exact absurd hn (g0.dom dx o w)) h
  | bad => rw [z] at q; exact q
theorem d_call (G : FnG X.prog X.w X.K X.mg X.base k fa fd ps (spP c.K c.cl c.tb F)) (cm : Calm k X.A) (hg : Gl X x) (hm : X.mg x = some (.ref fa)) (hk : PySem.W.keepIn X.K (.ref fa) = true) (hb : Binds X.K fd ps []) (hx : ∀ σ, PassesAt (L2.CX X.prog X.w) X σ (E σ))
    (ha : PA X (a :: es) (tA c E fs)) (hdb : (x == ("__debug__" : Str)) = false := by decide) (he : starEach (a :: es) X.env = (false, eval a X.env) :: starEach es X.env := by rfl) (hpl : (backTo pos (starEach es X.env)).any (·.1) = false := by rfl) :
    PE X (.Call (.Name x p) (a :: es) [] pos) (tE c E (eCall F fs)) :=
  pe_imp (pe_g G cm hg hm hk hb hx ha hdb he hpl) fun σ H Q ⟨η, S, n, r, d, al⟩ => ⟨η, S, n, r, d, all_mono (all_bind.mp al) (fun ds k q vs H1 S1 g1 d1 h1 => sp_of (r.grow g1).sub (r.grow g1).nt (r.grow g1).tabs h1 d1 g1 q) fun _ _ t => t⟩
/-! keywords -/
def pick {α : Type} (ix : List Nat) (ws : List α) : List α := ix.filterMap fun i => ws[i]?
/-- positional ones first, then by ix from the keywords -/
def gK {α : Type} (i j : Nat) (ix : List Nat) (us ws : List α) : List α := if us.length = i ∧ ws.length = j then us ++ pick ix ws else []
theorem vals_pick {vs : List V} {us : List Value} (h : Vals vs us) : ∀ ix : List Nat, Vals (pick ix vs) (pick ix us)
  | [] => .nil
  | i :: ix => by
    unfold pick
    rw [List.filterMap_cons, List.filterMap_cons]
    cases e : vs[i]? with
    | none =>
      rw [h.none_of e]
      exact vals_pick h ix
    | some v =>
      obtain ⟨u, e', r⟩ := h.get e
      rw [e']
      exact .cons r (vals_pick h ix)
theorem gK_vals {i j : Nat} {ix : List Nat} {vs : List V} {us : List Value} {zs : List V} {ws : List Value} (h : Vals vs us) (h' : Vals zs ws) : Vals (gK i j ix vs zs) (gK i j ix us ws) := by
  unfold gK
  rw [h.length, h'.length]
  split
  · exact h.append (vals_pick h' ix)
  · exact .nil
theorem DVs.none_of {S : Hp} : ∀ {vs : List V} {ds : List Val} {i : Nat}, DVs c.K c.cl S vs ds → ds[i]? = none → vs[i]? = none := fun {vs ds i} h e => by
  have := List.getElem?_eq_none_iff.mp e
  exact List.getElem?_eq_none_iff.mpr (by rw [h.len]; exact this)
theorem dvs_pick {S : Hp} {vs : List V} {us : List Val} (h : DVs c.K c.cl S vs us) : ∀ ix : List Nat, DVs c.K c.cl S (pick ix vs) (pick ix us)
  | [] => .nil
  | i :: ix => by
    unfold pick
    rw [List.filterMap_cons, List.filterMap_cons]
    cases e : us[i]? with
    | none =>
      rw [DVs.none_of h e]
      exact dvs_pick h ix
    | some v =>
      obtain ⟨u, e', r⟩ := h.get e
      rw [e']
      exact .cons r (dvs_pick h ix)
theorem gK_dvs {S : Hp} {i j : Nat} {ix : List Nat} {vs zs : List V} {us ws : List Val} (h : DVs c.K c.cl S vs us) (h' : DVs c.K c.cl S zs ws) : DVs c.K c.cl S (gK i j ix vs zs) (gK i j ix us ws) := by
  unfold gK
  rw [h.len, h'.len]
  split
  · exact h.append (dvs_pick h' ix)
  · exact .nil
theorem k_nil : PK X [] (tA c E aNil) := ⟨fun pins s σ H Q pos I ⟨η, S, n, r, d, al⟩ => pk_nil.run pins s σ H Q pos I (al [] _ S (Gd.refl r.sub) d .nil)⟩
theorem k_cons {nm : Option Str} {kpos : Pos} {kws : List Keyword} (ha : PE X a (tE c E f)) (hr : PK X kws (tA c E fs)) : PK X (⟨nm, a, kpos⟩ :: kws) (tA c E (aCons f fs)) :=
  ⟨fun pins s σ H Q pos I ⟨η, S, n, r, d, al⟩ => (pk_cons ha hr).run pins s σ H Q pos I ⟨η, S, n, r, d, all_mono (all_bind.mp al) (fun d m q v H1 S1 g1 dr1 h1 => ⟨η, S1, m, r.grow g1, dr1, all_mono (all_bind.mp q) (fun ds k q vs H2 S2 g2 dr2 h2 => q _ H2 S2 (g1.trans g2) dr2 (.cons (h1.mono g2.up) h2)) fun _ _ t => t.after g1⟩) fun _ _ t => t⟩⟩
def eCallK (i j : Nat) (ix : List Nat) (F : List Val → R) (fs ks : EvL) : Ev := fun η => (fs η).bind fun xs => (ks η).bind fun ys => ofR (F (gK i j ix xs ys))
variable {kws : List Keyword} {gs : EvL} {i j : Nat} {ix : List Nat}
theorem d_callK (G : FnG X.prog X.w X.K X.mg X.base k fa fd ps (spP c.K c.cl c.tb F)) (cm : Calm k X.A) (hg : Gl X x) (hm : X.mg x = some (.ref fa)) (hk : PySem.W.keepIn X.K (.ref fa) = true) (hb : KBinds X.K fd ps ks (gK i j ix) (gK i j ix)) (hx : ∀ σ, PassesAt (L2.CX X.prog X.w) X σ (E σ))
    (ha : PA X (a :: es) (tA c E fs)) (hkw : PK X kws (tA c E gs)) (hall : (backToKw pos (keywordEach kws X.env)).all (·.1.isSome) = true := by rfl) (hks : (backToKw pos (keywordEach kws X.env)).filterMap (·.1) = ks := by rfl)
    (hdb : (x == ("__debug__" : Str)) = false := by decide) (he : starEach (a :: es) X.env = (false, eval a X.env) :: starEach es X.env := by rfl)
    (hpl : ((backTo pos (starEach (a :: es) X.env)).any (·.1) || (backToKw pos (keywordEach kws X.env)).any (·.1.isNone)) = false := by rfl) : PE X (.Call (.Name x p) (a :: es) kws pos) (tE c E (eCallK i j ix F fs gs)) :=
  pe_imp (pe_gk G cm hg hm hk hb hx ha hkw hall hks hdb he hpl) fun σ H Q ⟨η, S, n, r, d, al⟩ => ⟨η, S, n, r, d, all_mono (all_bind.mp al) (fun ds k q vs H1 S1 g1 d1 h1 => ⟨η, S1, k, r.grow g1, d1, all_mono (all_bind.mp q) (fun es k q zs H2 S2 g2 d2 h2 => sp_of (r.grow (g1.trans g2)).sub (r.grow (g1.trans g2)).nt (r.grow (g1.trans g2)).tabs (gK_dvs (h1.mono g2.up) h2) d2 (g1.trans g2) q) fun _ _ t => t.after g1⟩) fun _ _ t => t⟩
theorem d_callK0 (G : FnG X.prog X.w X.K X.mg X.base k fa fd ps (spP c.K c.cl c.tb F)) (cm : Calm k X.A) (hg : Gl X x) (hm : X.mg x = some (.ref fa)) (hk : PySem.W.keepIn X.K (.ref fa) = true) (hb : KBinds X.K fd ps ks (gK i j ix) (gK i j ix)) (hx : ∀ σ, PassesAt (L2.CX X.prog X.w) X σ (E σ))
    (hkw : PK X kws (tA c E gs)) (hall : (backToKw pos (keywordEach kws X.env)).all (·.1.isSome) = true := by rfl) (hks : (backToKw pos (keywordEach kws X.env)).filterMap (·.1) = ks := by rfl)
    (hdb : (x == ("__debug__" : Str)) = false := by decide) (hpl : ((backTo pos (starEach [] X.env)).any (·.1) || (backToKw pos (keywordEach kws X.env)).any (·.1.isNone)) = false := by rfl) : PE X (.Call (.Name x p) [] kws pos) (tE c E (eCallK i j ix F aNil gs)) :=
  pe_imp (pe_gk0 G cm hg hm hk hb hx hkw hall hks hdb hpl) fun σ H Q ⟨η, S, n, r, d, al⟩ => by
    refine ⟨η, S, n, r, d, all_mono (all_bind.mp (show All ((gs η).bind fun ys => ofR (F (gK i j ix [] ys))) n _ _ from al)) (fun es k q zs H2 S2 g2 d2 h2 => ?_) fun _ _ t => t⟩
    exact sp_of (r.grow g2).sub (r.grow g2).nt (r.grow g2).tabs (gK_dvs .nil h2) d2 g2 q
/-! draws -/
def eDraw (F : List Val → T Val) (fs : EvL) : Ev := fun η => (fs η).bind fun xs => (F xs).hd .ret fun _ => .bad
theorem d_draw {F : List Val → T Val} {dn : Str} {dp : Pos} {p1 cc1 : Addr} (hdr : c.dr = some (p1, cc1)) (hv : PE X (.Name dn dp) (tVar c.dsl)) (G : FnG X.prog X.w X.K X.mg X.base k fa fd ps (spD c.K c.cl c.tb F)) (cm : Calm k X.A) (hg : Gl X x) (hm : X.mg x = some (.ref fa)) (hk : PySem.W.keepIn X.K (.ref fa) = true) (hb : Binds X.K fd ps [])
    (ha : PA X es (tA c E fs)) (hs1 : starEach (.Name dn dp :: es) X.env = (false, eval (.Name dn dp) X.env) :: starEach es X.env := by rfl) (hdb : (x == ("__debug__" : Str)) = false := by decide) (hpl : (backTo pos (starEach es X.env)).any (·.1) = false := by rfl) :
    PE X (.Call (.Name x p) (.Name dn dp :: es) [] pos) (tE c E (eDraw F fs)) :=
  pe_imp (pe_g (E := E00) G cm hg hm hk hb quiets (pa_cons hv ha hs1) hdb hs1 hpl) fun σ H Q ⟨η, S, n, r, d, al⟩ => by
    obtain ⟨h1, h2, h3, h4, h5⟩ := r.drw p1 cc1 hdr
    refine ⟨_, h5, η, S, n, r, d, all_mono (all_bind.mp al) (fun ds k q vs H1 S1 g1 d1 hv => ?_) fun _ _ t => t⟩
    have r1 := r.grow g1
    refine ⟨p1, cc1, S1, vs, ds, k, rfl, r1.sub, r1.nt, r1.tabs, (r1.drw p1 cc1 hdr).1, h4, hv, hdr ▸ d1, all_mono (all_hd.mp q) (fun d m q v H' S' g' d' hv' => q v H' S' (g1.trans (hdr ▸ g')) (hdr ▸ d') hv') fun e m q => (show False from q).elim⟩
end
/-! ### defs -/
section
variable {P : Program} {w : World} {K : PySem.W.Frag} {mg : Str → Option Value} {base : Heap} {k : Nat} {f : Addr} {fd : FuncData} {N ps : List Str} {cl : Str → Option Addr} {x qual : Str} {st : Stmt} {m : Sm}
theorem getMap {α β : Type} {l : List α} {i : Nat} {g : α → β} {n : Nat} {b : β} {z : Option β} (h : (l.map (fun a => some (g a)) ++ List.replicate n z)[i]? = some (some b)) (hz : z = none) : ∃ a, l[i]? = some a ∧ g a = b := by
  subst hz
  by_cases hi : i < l.length
  · rw [List.getElem?_append_left (by simpa using hi), List.getElem?_map] at h
    cases e : l[i]? with
    | none => rw [e] at h; cases h
    | some a => rw [e] at h; cases h; exact ⟨a, rfl, rfl⟩
  · rw [List.getElem?_append_right (by simpa using hi)] at h
    by_cases hj : i - (l.map fun a => some (g a)).length < n
    · rw [List.getElem?_replicate, if_pos hj] at h; cases h
    · rw [List.getElem?_replicate, if_neg hj] at h; cases h
theorem rel_start {H S : Hp} {vs : List V} {ds : List Val} {ow : List Nat} (s : Sub S H) (nt : NoT S) (tt : LamX.Tabs tb H) (h : DVs K cl S vs ds) (hl : ds.length ≤ N.length) (ho : ∀ i ∈ ow, ds.length ≤ i) : Rel ⟨K, cl, ow, none, H, S, 0, tb⟩ (L2.start N vs) H S (envP N.length ds) := by
  have hv := h.len
  refine ⟨Gd.refl s, by simp [envP, L2.start, hv], fun i d e n => ?_, fun i d e n => ?_, fun i j d e a hi hj hij h1 => ?_, fun p cc e => (nomatch e), nt, tt⟩
  · obtain ⟨a, h1, rfl⟩ := getMap (g := id) (show (ds.map (fun a => some (id a)) ++ _)[i]? = some (some d) from e) rfl
    obtain ⟨v, h2, h3⟩ := h.get h1
    refine ⟨v, ?_, h3⟩
    have hi := (List.getElem?_eq_some_iff.mp h2).1
    show (vs.map some ++ _)[i]? = _
    rw [List.getElem?_append_left (by simpa using hi), List.getElem?_map, h2]
    rfl
  · obtain ⟨a, h1, rfl⟩ := getMap (g := id) (show (ds.map (fun a => some (id a)) ++ _)[i]? = some (some d) from e) rfl
    have := (List.getElem?_eq_some_iff.mp h1).1
    have := ho i n
    omega
  · obtain ⟨a, h9, rfl⟩ := getMap (g := id) (show (ds.map (fun a => some (id a)) ++ _)[i]? = some (some d) from h1) rfl
    have := (List.getElem?_eq_some_iff.mp h9).1
    have := ho i hi
    omega
/-- a def without draws -/
theorem def_pC (ow : List Nat) (F : Fun K x qual st f fd) (S : FnScope N ps (defScope st)) (ho : ∀ i ∈ ow, ps.length ≤ i)
    (body : ∀ (cdv : Value) (A : Around) (fr : List PySem.Env) (s : Shared) (H S : Hp) (E : XK), fd.code = cdv → Calm k (A.deeper (envOfC qual (defScope st) s.heap.objs.size f cdv)) → PSs (cxOf (L2.CX P w) P w K mg base N qual (defScope st) f cdv A fr s H E) (defBody st) (tS ⟨K, cl, ow, none, H, S, 0, tb⟩ (fun _ => E) m)) :
    FnG P w K mg base (k + 1) f fd ps (spP K cl tb (runP ps.length N.length m)) := by
  have len : ∀ vs H Q E, spP K cl tb (runP ps.length N.length m) vs H Q E → vs.length = ps.length := fun vs H Q E ⟨S, ds, _, _, _, h, q⟩ => by
    rw [h.len]
    by_cases e : ds.length = ps.length
    · exact e
    · have z : runP ps.length N.length m ds = .bad := if_neg e
      rw [z] at q
      exact q.elim
  have hpl : ps.length ≤ N.length := by have := congrArg List.length S.pre; rw [List.length_take] at this; omega
  refine def_okC F S len fun cdv A fr s H vs Q E hcd c h => ?_
  have hl := len vs H Q E h
  obtain ⟨Sh, ds, hs, hnt, htt, hv, q⟩ := h
  refine ⟨_, body cdv A fr s H Sh E hcd c, envP N.length ds, Sh, 0, ?_, drNone, ?_⟩
  · have := hv.len
    exact rel_start hs hnt htt hv (by omega) fun i hi => by have := ho i hi; omega
  · have z : runP ps.length N.length m ds = toR (m (envP N.length ds)) := if_pos (by rw [← hv.len]; exact hl)
    rw [z] at q
    cases t : m (envP N.length ds) with
    | ret o =>
      rw [t] at q
      cases o with
      | rt d => exact fun v H' S' g _ h => q v H' S' g h
      | nx η' => exact fun σ' H' S' r _ _ => q .non H' S' r.g0 .non
      | ex e η' => exact fun σ' C dx v H' S' r _ _ hc hx hn hv => q C dx v H' S' r.g0 hc hx hn hv
      | bk η' => exact q.elim
      | ct η' => exact q.elim
    | err e =>
      rw [t] at q
      exact fun σ' C dx v H' S' g _ hc hx hn hv => q C dx v H' S' g hc hx hn hv
    | draw b k => rw [t] at q; exact q.elim
    | bad => rw [t] at q; exact q.elim
theorem def_p (ow : List Nat) (F : Fun K x qual st f fd) (S : FnScope N ps (defScope st)) (ho : ∀ i ∈ ow, ps.length ≤ i)
    (body : ∀ (cdv : Value) (A : Around) (fr : List PySem.Env) (s : Shared) (H S : Hp) (E : XK), Calm k (A.deeper (envOfC qual (defScope st) s.heap.objs.size f cdv)) → PSs (cxOf (L2.CX P w) P w K mg base N qual (defScope st) f cdv A fr s H E) (defBody st) (tS ⟨K, cl, ow, none, H, S, 0, tb⟩ (fun _ => E) m)) :
    FnG P w K mg base (k + 1) f fd ps (spP K cl tb (runP ps.length N.length m)) :=
  def_pC ow F S ho fun cdv A fr s H S E _ cm => body cdv A fr s H S E cm
theorem rel_startD {H S : Hp} {p cc : Addr} {vs : List V} {ds : List Val} {ow : List Nat} (s : Sub S H) (nt : NoT S) (tt : LamX.Tabs tb H) (h : DVs K cl S vs ds) (hN : 1 ≤ N.length) (hl : ds.length + 1 ≤ N.length) (ho : ∀ i ∈ ow, ds.length + 1 ≤ i) (h1 : S p = none) (h2 : H p ≠ none) (h3 : H cc ≠ none) (h4 : cc ≠ p) :
    Rel ⟨K, cl, ow, some (p, cc), H, S, 0, tb⟩ (L2.start N (.ref p :: vs)) H S (envD N.length ds) := by
  have hv := h.len
  have at' : ∀ {i : Nat} {d : Val}, (envD N.length ds)[i]? = some (some d) → ∃ j v, i = j + 1 ∧ ds[j]? = some d ∧ vs[j]? = some v ∧ DV K cl S v d := fun {i d} e => by
    cases i with
    | zero => cases e
    | succ j =>
      obtain ⟨a, h1, rfl⟩ := getMap (g := id) (show (ds.map (fun a => some (id a)) ++ _)[j]? = some (some d) from e) rfl
      obtain ⟨v, h2, h3⟩ := h.get h1
      exact ⟨j, v, rfl, h1, h2, h3⟩
  refine ⟨Gd.refl s, by simp [envD, L2.start, hv]; omega, fun i d e n => ?_, fun i d e n => ?_, fun i j d e a hi hj hij h1 => ?_, fun q c' e => ?_, nt, tt⟩
  · obtain ⟨j, v, rfl, h1, h2, h3⟩ := at' e
    refine ⟨v, ?_, h3⟩
    have hi := (List.getElem?_eq_some_iff.mp h2).1
    show (some (V.ref p) :: (vs.map some ++ _))[j + 1]? = _
    rw [List.getElem?_cons_succ, List.getElem?_append_left (by simpa using hi), List.getElem?_map, h2]
    rfl
  · obtain ⟨j, v, rfl, h1, h2, h3⟩ := at' e
    have := (List.getElem?_eq_some_iff.mp h1).1
    have := ho _ n
    omega
  · obtain ⟨j, v, rfl, h9, h2, h3⟩ := at' h1
    have := (List.getElem?_eq_some_iff.mp h9).1
    have := ho _ hi
    omega
  · cases e
    exact ⟨h1, h2, h3, h4, rfl⟩
/-- a def that draws -/
theorem def_dC (ow : List Nat) (n : Nat) (F : Fun K x qual st f fd) (S : FnScope N ps (defScope st)) (hn : ps.length = n + 1) (ho : ∀ i ∈ ow, n + 1 ≤ i)
    (body : ∀ (cdv : Value) (A : Around) (fr : List PySem.Env) (s : Shared) (H S : Hp) (p cc : Addr) (E : XK), fd.code = cdv → Calm k (A.deeper (envOfC qual (defScope st) s.heap.objs.size f cdv)) → PSs (cxOf (L2.CX P w) P w K mg base N qual (defScope st) f cdv A fr s H E) (defBody st) (tS ⟨K, cl, ow, some (p, cc), H, S, 0, tb⟩ E00 m)) :
    FnG P w K mg base (k + 1) f fd ps (spD K cl tb (runD n N.length m)) := by
  have len : ∀ vs H Q E, spD K cl tb (runD n N.length m) vs H Q E → vs.length = ps.length := fun vs H Q E ⟨p, cc, S, vs', ds, j, e, _, _, _, _, _, h, _, q⟩ => by
    rw [e, List.length_cons, h.len, hn]
    by_cases e : ds.length = n
    · rw [e]
    · have z : runD n N.length m ds = .bad := if_neg e
      rw [z] at q
      exact q.elim
  have hpl : ps.length ≤ N.length := by have := congrArg List.length S.pre; rw [List.length_take] at this; omega
  refine def_okC F S len fun cdv A fr s H vs Q E hcd c h => ?_
  have hl := len vs H Q E h
  obtain ⟨p, cc, Sh, vs', ds, j, rfl, hs, hnt, htt, hp, hcc, hv, hd, q⟩ := h
  have e : ds.length = n := by rw [← hv.len]; simp at hl; omega
  obtain ⟨_, _, hD⟩ := hd p cc rfl
  refine ⟨_, body cdv A fr s H Sh p cc E hcd c, envD N.length ds, Sh, j, rel_startD hs hnt htt hv (by omega) (by omega) (fun i hi => by have := ho i hi; omega) hp ?_ ?_ hcc, hd, ?_⟩
  · obtain ⟨⟨o, h1⟩, _⟩ := hD.there; rw [h1]; exact fun z => by cases z
  · obtain ⟨_, o, h1⟩ := hD.there; rw [h1]; exact fun z => by cases z
  · have z : runD n N.length m ds = toT (m (envD N.length ds)) := if_pos e
    rw [z] at q
    exact all_mono (all_bind.mp q) (fun o j q => by
      cases o with
      | rt d => exact fun v H' S' g d' h => q v H' S' g d' h
      | nx η' => exact fun σ' H' S' r d' _ => q .non H' S' r.g0 d' .non
      | ex e η' => exact (show False from q).elim
      | bk η' => exact (show False from q).elim
      | ct η' => exact (show False from q).elim) fun e j q => (show False from q).elim
theorem def_d (ow : List Nat) (n : Nat) (F : Fun K x qual st f fd) (S : FnScope N ps (defScope st)) (hn : ps.length = n + 1) (ho : ∀ i ∈ ow, n + 1 ≤ i)
    (body : ∀ (cdv : Value) (A : Around) (fr : List PySem.Env) (s : Shared) (H S : Hp) (p cc : Addr) (E : XK), Calm k (A.deeper (envOfC qual (defScope st) s.heap.objs.size f cdv)) → PSs (cxOf (L2.CX P w) P w K mg base N qual (defScope st) f cdv A fr s H E) (defBody st) (tS ⟨K, cl, ow, some (p, cc), H, S, 0, tb⟩ E00 m)) :
    FnG P w K mg base (k + 1) f fd ps (spD K cl tb (runD n N.length m)) :=
  def_dC ow n F S hn ho fun cdv A fr s H S p cc E _ cm => body cdv A fr s H S p cc E cm
end
end EV
end
section
set_option Elab.async false
set_option linter.all false
set_option maxRecDepth 100000
set_option maxHeartbeats 4000000
/-! Errors: raise, try, what is asked of a caught one. -/
namespace EV
open PySem PySem.Spec PyProof.Rows L2 XK
section
variable {c : Ct} {σ : L2.St} {H S : Hp} {η : Env}
/-- a thing of the def's own time that no slot holds becomes shared -/
theorem Rel.share (r : Rel c σ H S η) {a : Addr} {o : HO} (ha : H a = some o) (h0 : c.H0 a = none) (ho : ∀ i ∈ c.ow, ∀ d, η[i]? = some (some d) → σ[i]? ≠ some (some (.ref a))) (hs : ∀ u, S a = some u → u = o) (hd : ∀ p cc, c.dr = some (p, cc) → a ≠ p) (hto : ∀ ps, o ≠ .tbl ps := by intro _ z; cases z) : Rel c σ H (upd S a o) η ∧ Sub S (upd S a o) := by
  have up : Sub S (upd S a o) := fun b u h => by
    by_cases e : b = a
    · subst e
      rw [upd_same, hs u h]
    · rw [upd_ne e]; exact h
  refine ⟨⟨⟨r.g0.keep, r.g0.up.trans up, fun b u h => ?_, fun b u h => ?_, r.g0.dom, r.g0.tab, fun _ => r.nt.new hto⟩, r.len, fun i d e n => ?_, fun i d e n => ?_, r.dis, fun p cc e => ?_, r.nt.new hto, r.tabs⟩, up⟩
  · rcases upd_none h with ⟨rfl, rfl⟩ | ⟨_, h⟩
    · exact ha
    · exact r.sub b u h
  · rcases upd_none h with ⟨rfl, rfl⟩ | ⟨_, h⟩
    · exact .inr h0
    · exact r.g0.new b u h
  · obtain ⟨v, h1, h2⟩ := r.loc i d e n
    exact ⟨v, h1, h2.mono up⟩
  · obtain ⟨b, h1, h2, h3, h4, h5⟩ := r.own i d e n
    have nb : b ≠ a := fun q => ho i n d e (q ▸ h1)
    refine ⟨b, h1, by rw [upd_ne nb]; exact h2, h3, h4, ?_⟩
    rcases h5 with ⟨xs, ds, rfl, h, x⟩ | ⟨xs, ds, rfl, h, x⟩
    · exact .inl ⟨xs, ds, rfl, h, x.mono up⟩
    · exact .inr ⟨xs, ds, rfl, h, x.mono up⟩
  · obtain ⟨h1, h2⟩ := r.drw p cc e
    exact ⟨by rw [upd_ne (Ne.symm (hd p cc e))]; exact h1, h2⟩
theorem Rel.del (r : Rel c σ H S η) {i : Nat} (hi : i ∉ c.ow) (hd : c.dr = none ∨ i ≠ c.dsl) : Rel c (σ.set i none) H S (η.set i none) := by
  have ne : ∀ j, j ∈ c.ow → j ≠ i := fun j hj e => hi (e ▸ hj)
  have at' : ∀ {j : Nat} {d : Val}, (η.set i none)[j]? = some (some d) → j ≠ i ∧ η[j]? = some (some d) := fun {j d} z => by
    rcases get_set z with ⟨rfl, hl, q⟩ | ⟨q, z⟩
    · cases q
    · exact ⟨q, z⟩
  refine ⟨r.g0, by rw [List.length_set, List.length_set, r.len], fun j e z n => ?_, fun j e z n => ?_, fun j k e e' a hj hk hjk z z' y => ?_, fun p cc e => ?_, r.nt, r.tabs⟩
  · obtain ⟨q, z⟩ := at' z
    rw [List.getElem?_set_ne (Ne.symm q)]
    exact r.loc j e z n
  · obtain ⟨q, z⟩ := at' z
    rw [List.getElem?_set_ne (Ne.symm q)]
    exact r.own j e z n
  · rw [List.getElem?_set_ne (Ne.symm (ne j hj))] at y
    rw [List.getElem?_set_ne (Ne.symm (ne k hk))]
    exact r.dis j k e e' a hj hk hjk (at' z).2 (at' z').2 y
  · obtain ⟨h1, h2, h3, h4, h5⟩ := r.drw p cc e
    refine ⟨h1, h2, h3, h4, ?_⟩
    rcases hd with hd | hd
    · rw [hd] at e; cases e
    · rw [List.getElem?_set_ne hd]; exact h5
end
section
variable {X : Cx} {c : Ct} {E : L2.St → XK} {a b : PySem.Expr} {f g : Ev} {pos p pos2 : Pos} {m m2 : Sm} {x fn : Str} {C fI : Addr} {fd : FuncData} {W : WX}
def mRaise (x fn : Str) (f : Ev) : Sm := fun η => (f η).hd (fun d => .ret (.ex ⟨x, fn, d⟩ η)) fun e => .ret (.ex e η)
theorem s_raise (T : Ec X.K X.mg x C fI fn) (hc : c.cl x = some C) (F : FnOk X.prog X.w X.K X.mg X.base (L2.CX X.prog X.w) 1 fI fd ["self", fn] (spIni C fn)) (hb : Binds X.K fd ["self", fn] []) (hr : Room 2 X.A) (hcm : X.calm = true) (tk : Takes X W) (he : PE X a (tE c (WE W) f)) (hg : Gl X x)
    (hdb : (x == ("__debug__" : Str)) = false := by decide) (hst : starEach [a] X.env = (false, eval a X.env) :: starEach [] X.env := by rfl) (hpl : (backTo pos (starEach [] X.env)).any (·.1) = false := by rfl) :
    PS X (.Raise (some (.Call (.Name x p) [a] [] pos)) none pos2) (tS c (WE W) (mRaise x fn f)) :=
  ps_imp (ps_rz T F hb hr hcm tk he hg hdb hst hpl) fun D σ H ⟨η, S, n, r, d, al⟩ => ⟨η, S, n, r, d, all_mono (all_hd.mp al) (fun d1 k q v H1 S1 g1 d1' h1 dx hdx => by
    have r1 := r.grow g1
    have ga := Gr.alloc0 (o := HO.xd [(fn, v)]) r1.sub hdx
    exact q σ C dx v _ S1 (r1.grow ga.d) (d1'.sub ga.keep) g1.up hc upd_same (r1.free0 hdx) h1) fun e k q => Thrown.of (D := D) r q⟩
/-- try: .. except (the three families) as name: .. -/
def mTry (i : Nat) (m m2 : Sm) : Sm := fun η => (m η).hd (fun o => match o with
  | .ex e η' => (m2 (η'.set i (some (.exc e.C e.f e.x)))).hd (fun o => match o with
    | .nx η2 => .ret (.nx (η2.set i none))
    | .bk η2 => .ret (.bk (η2.set i none))
    | .ct η2 => .ret (.ct (η2.set i none))
    | .rt d => .ret (.rt d)
    | .ex _ _ => .bad) fun _ => .bad
  | o => .ret o) fun _ => .bad
section
variable {x1 x2 x3 n : Str} {c1 c2 c3 : Addr} {i : Nat} {body suite : List Stmt} {b₀ : Stmt} {k : Nat} {q1 q2 q3 q4 pos' : Pos}
/-- the caught one, kept -/
theorem keep_ok {D : Ends} {η' : Env} {S : Hp} {k : Nat} {e : Err} (hi : i ∉ c.ow) (hd : c.dr = none ∨ i ≠ c.dsl) {σ' : L2.St} {C dx : Addr} {v : V} {H' S' : Hp} (r : Rel c σ' H' S' η') (d : DrOk c.dr H' k) (u : Sub S S') (hc : c.cl e.C = some C) (hx : H' dx = some (.xd [(e.f, v)])) (h0 : c.H0 dx = none) (hv : DV c.K c.cl S' v e.x)
    (al : All (m2 (η'.set i (some (.exc e.C e.f e.x)))) k (fun o k => All (match o with
      | .nx η2 => .ret (.nx (η2.set i none))
      | .bk η2 => .ret (.bk (η2.set i none))
      | .ct η2 => .ret (.ct (η2.set i none))
      | .rt d => .ret (.rt d)
      | .ex _ _ => .bad : T Out) k (fun o k => OutOk c E D S k o) (fun e k => Gone c E e k)) (fun _ _ => False)) {a : Addr} (ha : H' a = none) :
    tS c E m2 { nx := fun σ' H' => D.nx (σ'.set i none) H', rt := D.rt, bk := fun σ' H' => D.bk (σ'.set i none) H', ct := fun σ' H' => D.ct (σ'.set i none) H' } (σ'.set i (some (.ref a))) (upd H' a (Xo a (.ref C) (some dx))) := by
  have own_ne : ∀ (j : Nat), j ∈ c.ow → ∀ d, η'[j]? = some (some d) → σ'[j]? ≠ some (some (.ref dx)) := fun j hj d e w => by
    obtain ⟨b, h1, _, _, _, h5⟩ := r.own j d e hj
    rw [w] at h1
    cases h1
    rcases h5 with ⟨_, _, _, h, _⟩ | ⟨_, _, _, h, _⟩ <;> rw [hx] at h <;> cases h
  have dn : ∀ p cc, c.dr = some (p, cc) → dx ≠ p := fun p cc e w => by
    obtain ⟨_, h2, _⟩ := r.drw p cc e
    rw [← w] at h2
    exact h2 h0
  obtain ⟨r1, u1⟩ := r.share hx h0 own_ne (fun w z => by have := r.sub dx w z; rw [hx] at this; exact (Option.some.inj this).symm) dn
  have nd : dx ≠ a := ne_of_none hx ha
  have ga := Gr.alloc (o := Xo a (.ref C) (some dx)) r1.sub ha
  have r2 := r1.grow ga.d
  have hdv : DV c.K c.cl (upd (upd S' dx (.xd [(e.f, v)])) a (Xo a (.ref C) (some dx))) (.ref a) (.exc e.C e.f e.x) :=
    .exc upd_same (by rw [upd_ne nd, upd_same]) hc ((hv.mono u1).mono ga.up)
  refine ⟨_, _, k, r2.set hi hd hdv, d.sub ga.keep, all_mono al (fun o k q => ?_) fun _ _ t => t.elim⟩
  have us : Sub S (upd (upd S' dx (.xd [(e.f, v)])) a (Xo a (.ref C) (some dx))) := (u.trans u1).trans ga.up
  cases o with
  | nx η2 => exact fun σ3 H3 S3 r3 d3 u3 => q _ H3 S3 (r3.del hi hd) d3 (us.trans u3)
  | bk η2 => exact fun σ3 H3 S3 r3 d3 u3 => q _ H3 S3 (r3.del hi hd) d3 (us.trans u3)
  | ct η2 => exact fun σ3 H3 S3 r3 d3 u3 => q _ H3 S3 (r3.del hi hd) d3 (us.trans u3)
  | rt d => exact q
  | ex e η2 => exact q.elim
theorem s_try (hs : X.stack = X.env :: X.outer) (hf : X.env.frame = some X.env.locals) (hex : X.ex = []) (hN : X.N.Nodup) (hi : X.N[i]? = some n) (hln : X.env.kindOf n = some .local) (hio : i ∉ c.ow) (hd : c.dr = none ∨ i ≠ c.dsl)
    (g1 : Gl X x1) (m1 : X.mg x1 = some (.ref c1)) (g2 : Gl X x2) (m2' : X.mg x2 = some (.ref c2)) (g3 : Gl X x3) (m3 : X.mg x3 = some (.ref c3)) (hcl : ∀ n C, c.cl n = some C → PySem.W.exmAny X.K (.ref C) [.ref c1, .ref c2, .ref c3] = some true)
    (hb : ∀ (W : WX) (pn : List (Addr × Obj)) (xe : Value → Shared → Prop), Takes (X.tr pn xe) W → PSs (X.tr pn xe) body (tS c (WE W) m))
    (hsu : ∀ (a : Addr) (pn : List (Addr × Obj)), PSs (X.suite a pn) (b₀ :: suite) (tS c E m2))
    (d1 : (x1 == ("__debug__" : Str)) = false := by decide) (d2 : (x2 == ("__debug__" : Str)) = false := by decide) (d3 : (x3 == ("__debug__" : Str)) = false := by decide)
    (st1 : starEach [.Name x1 q1, .Name x2 q2, .Name x3 q3] X.env = (false, eval (.Name x1 q1) X.env) :: (false, eval (.Name x2 q2) X.env) :: (false, eval (.Name x3 q3) X.env) :: starEach [] X.env := by rfl) :
    PS X (.Try body [.ExceptHandler (some (.Tuple [.Name x1 q1, .Name x2 q2, .Name x3 q3] k q4)) (some n) (b₀ :: suite) pos'] [] [] pos) (tS c E (mTry i m m2)) :=
  ps_imp (ps_keep hs hf hex hN hi hln g1 m1 g2 m2' g3 m3 (tb := fun W => tS c (WE W) m) (ts := tS c E m2) hb hsu d1 d2 d3 st1) fun D σ H ⟨η, S, n, r, d, al⟩ => ⟨η, S, n, r, d, all_mono (all_hd.mp al) (fun o k q => by
    cases o with
    | ex e η' => exact fun σ' C dx v H' S' r' d' u hc hx h0 hv => ⟨hcl _ _ hc, fun a ha => keep_ok hio hd r' d' u hc hx h0 hv (all_hd.mp q) ha⟩
    | nx η' => exact q
    | rt v => exact q
    | bk η' => exact q
    | ct η' => exact q) fun e k q => (show False from q).elim⟩
/-- try: .. except one class: return a value that is written -/
def mTryRet (x : Str) (d : Val) (m : Sm) : Sm := fun η => (m η).hd (fun o => match o with
  | .ex e η' => if e.C = x then .ret (.rt d) else .ret (.ex e η')
  | o => .ret o) fun _ => .bad
theorem s_tryRet {np : Pos} {ce : PySem.Expr} {v : V} {d : Val} (hs : X.stack = X.env :: X.outer) (hf : X.env.frame = some X.env.locals) (hn : Names X x (.ref C)) (tk : Takes X W) (hdr : c.dr = Option.none) (hv : ∀ S, DV c.K c.cl S v d) (hce : ∀ (a : Addr) (pn : List (Addr × Obj)), PE (X.suite a pn) ce (tC v))
    (hcl : ∀ n C', c.cl n = some C' → PySem.W.exmOne X.K (.ref C') (.ref C) = some (decide (n = x)))
    (hb : ∀ (W : WX) (pn : List (Addr × Obj)) (xe : Value → Shared → Prop), Takes (X.tr pn xe) W → PSs (X.tr pn xe) body (tS c (WE W) m)) :
    PS X (.Try body [.ExceptHandler (some (.Name x np)) Option.none [.Return (some ce) p] pos'] [] [] pos) (tS c (WE W) (mTryRet x d m)) :=
  ps_imp (ps_try_only (ts := fun _ _ _ => tRet (tC v)) (tb := fun W => tS c (WE W) m) hs hf hn tk (fun W pn xe t _ => hb W pn xe t) (fun a oe cls dd pn _ _ => pss_one (ps_ret (hce a _)))) fun D σ H ⟨η, S, n, r, dr, al⟩ => ⟨η, S, n, r, dr, all_mono (all_hd.mp al) (fun o k q => by
    cases o with
    | ex e η' =>
      intro σ' C' dx w H' S' r' d' u hc hx h0 hv'
      refine ⟨_, hcl _ _ hc, fun hb a ha => ?_, fun hb => ?_⟩
      · have q' : All (if e.C = x then T.ret (Out.rt d) else T.ret (Out.ex e η')) k (fun o k => OutOk c (WE W) D S k o) (fun e k => Gone c (WE W) e k) := q
        rw [if_pos (of_decide_eq_true hb)] at q'
        exact q' v H' S' r'.g0 d' (hv S')
      · have q' : All (if e.C = x then T.ret (Out.rt d) else T.ret (Out.ex e η')) k (fun o k => OutOk c (WE W) D S k o) (fun e k => Gone c (WE W) e k) := q
        rw [if_neg (of_decide_eq_false hb)] at q'
        exact q' σ' C' dx w H' S' r' d' u hc hx h0 hv'
    | nx η' => exact q
    | rt v => exact q
    | bk η' => exact q
    | ct η' => exact q) fun e k q => (show False from q).elim⟩
end
/-! ### what is asked of a caught one -/
def eFld (ns : List Str) (nm : Str) (f : Ev) : Ev := fun η => (f η).bind fun d => match d with | .exc n fn x => if fn = nm ∧ n ∈ ns then .ret x else .bad | _ => .bad
theorem d_fld {ns : List Str} {nm : Str} (hX : ∀ n C, c.cl n = some C → XfC X.K C) (hF : ∀ n ∈ ns, ∀ C, c.cl n = some C → PySem.W.findIn X.K (.ref C) nm = some none) (he : PE X a (tE c E f)) (hb : attributeBase a nm X.env (eval a X.env) = eval a X.env := by rfl) : PE X (.Attribute a nm pos) (tE c E (eFld ns nm f)) :=
  pe_imp (pe_xo he hb) fun σ H Q ⟨η, S, n, r, d, al⟩ => ⟨η, S, n, r, d, all_mono (all_bind.mp al) (fun d1 k q v H1 S1 g1 d1' h1 => by
    split at q
    · split at q
      · rename_i h
        obtain ⟨rfl, hm⟩ := h
        cases h1 with
        | exc e1 e2 e3 e4 =>
          have s1 := (r.grow g1).sub
          refine ⟨_, _, _, _, _, rfl, s1 _ _ e1, s1 _ _ e2, hX _ _ e3, hF _ hm _ e3, ?_, q _ H1 S1 g1 d1' e4⟩
          simp [List.lookup]
      · exact q.elim
    · exact q.elim) fun _ _ t => t⟩
/-- isinstance, an own class -/
def vIsX (sub : Str → Bool) : List Val → Option Val
  | [.exc n _ _] => some (.bl (sub n))
  | _ => none
def eIsX (sub : Str → Bool) (f : Ev) : Ev := fun η => (f η).bind fun d => ofO (vIsX sub [d])
theorem d_isX {sub : Str → Bool} {x2 : Str} {C2 : Addr} {p2 : Pos} (hX : ∀ n C, c.cl n = some C → ExcC X.K C ∧ PySem.W.kitOne X.K (.ref C) (.ref C2) = some (sub n)) (hg : Gl X "isinstance") (hm : X.mg "isinstance" = none) (h2 : X.mg x2 = some (.ref C2)) (hg2 : Gl X x2) (he : PE X a (tE c E f))
    (hd2 : (x2 == ("__debug__" : Str)) = false := by decide) (hs1 : starEach [a, .Name x2 p2] X.env = (false, eval a X.env) :: starEach [.Name x2 p2] X.env := by rfl) (hpl : (backTo pos (starEach [.Name x2 p2] X.env)).any (·.1) = false := by rfl) : PE X (.Call (.Name "isinstance" p) [a, .Name x2 p2] [] pos) (tE c E (eIsX sub f)) :=
  pe_imp (pe_callB call_isx hg hm (by decide +kernel) (pa_cons he (pa_cons (pe_glob (v := .ref C2) hg2 h2 rfl hd2) pa_nil) hs1) (by decide) (by decide) hs1 hpl) fun σ H Q ⟨η, S, n, r, d, al⟩ => ⟨η, S, n, r, d, all_mono (all_bind.mp al) (fun d1 k q v H1 S1 g1 d1' h1 => by
    obtain ⟨o, e, q⟩ := all_ofO.mp q
    cases d1 <;> try cases e
    cases h1 with
    | exc e1 e2 e3 e4 =>
      have s1 := (r.grow g1).sub
      exact ⟨_, _, _, _, _, _, _, rfl, .own C2, s1 _ _ e1, s1 _ _ e2, (hX _ _ e3).1, (hX _ _ e3).2, q _ H1 S1 g1 d1' (.bl _)⟩) fun _ _ t => t⟩
/-- isinstance, a built-in type, of data -/
def isT (T : String) : Val → Option Bool
  | .non => kitB "NoneType" T
  | .bl _ => kitB "bool" T
  | .int _ => kitB "int" T
  | .str _ => kitB "str" T
  | .lst _ => kitB "list" T
  | .tup _ => kitB "tuple" T
  | .dic _ => kitB "dict" T
  | .fn _ => none
  | .exc _ _ _ => none
def eIsT (T : String) (f : Ev) : Ev := fun η => (f η).bind fun d => ofO ((isT T d).map .bl)
theorem DW.ty {S H : Hp} {v : V} {d : Val} {T : String} {k : Bool} (s : Sub S H) (h : DW c S H v d) (e : isT T d = some k) : ∃ t, TyX c.K H v (.type t) ∧ kitB t T = some k := by
  cases d with
  | non => rw [h.non]; exact ⟨_, .base .non, e⟩
  | bl b => rw [h.bl]; exact ⟨_, .base (.bl b), e⟩
  | int i => rw [h.int]; exact ⟨_, .base (.int i), e⟩
  | str z => rw [h.str]; exact ⟨_, .base (.str z), e⟩
  | lst xs =>
    obtain ⟨a, vs, rfl, h1, _⟩ := h.lst s
    rcases h1 with (h1 | ⟨o, h1⟩) | ⟨o, its, n, hk, hc, _⟩
    · exact ⟨_, .base (.lst h1), e⟩
    · exact ⟨_, .base (.frz h1), e⟩
    · exact ⟨_, .kList hk hc, e⟩
  | tup xs =>
    obtain ⟨a, vs, rfl, h1, _⟩ := h.tup s
    rcases h1 with (h1 | ⟨o, h1⟩) | ⟨o, its, n, hk, hc, _⟩
    · exact ⟨_, .base (.tup h1), e⟩
    · exact ⟨_, .fTuple h1, e⟩
    · exact ⟨_, .kTuple hk hc, e⟩
  | dic xs =>
    obtain ⟨a, vs, rfl, h1, _⟩ := h.dic s
    exact ⟨_, .base (.dK h1), e⟩
  | fn _ => cases e
  | exc _ _ _ => cases e
theorem d_isT {T : String} {x2 : Str} {p2 : Pos} (hK : X.K = c.K) (hg : Gl X "isinstance") (hm : X.mg "isinstance" = none) (hT : PE X (.Name x2 p2) (tC (.ty T))) (he : PE X a (tW c E f))
    (hs1 : starEach [a, .Name x2 p2] X.env = (false, eval a X.env) :: starEach [.Name x2 p2] X.env := by rfl) (hpl : (backTo pos (starEach [.Name x2 p2] X.env)).any (·.1) = false := by rfl) (hs2 : starEach [.Name x2 p2] X.env = (false, eval (.Name x2 p2) X.env) :: starEach [] X.env := by rfl) :
    PE X (.Call (.Name "isinstance" p) [a, .Name x2 p2] [] pos) (tE c E (eIsT T f)) :=
  pe_imp (pe_callB call_isi hg hm (by decide +kernel) (pa_cons he (pa_cons hT pa_nil hs2) hs1) (by decide) (by decide) hs1 hpl) fun σ H Q ⟨η, S, n, r, d, al⟩ => ⟨η, S, n, r, d, all_mono (all_bind.mp al) (fun d1 k q v H1 S1 g1 d1' h1 => by
    obtain ⟨o, e, q⟩ := all_ofO.mp q
    cases z : isT T d1 with
    | none => rw [z] at e; cases e
    | some b =>
      rw [z] at e
      cases e
      obtain ⟨t, h2, h3⟩ := h1.ty (r.grow g1).sub z
      exact ⟨v, .ty T, _, _, b, rfl, .ty T, by rw [hK]; exact h2, kit_ty h3, q _ H1 S1 g1 d1' (.bl _)⟩) fun _ _ t => t⟩
end
end EV
end
section
set_option Elab.async false
set_option linter.all false
set_option maxRecDepth 100000
set_option maxHeartbeats 4000000
/-! Slices, stores, methods, more built-ins. -/
namespace EV
open PySem PySem.Spec PyProof.Rows L2 XK
section
variable {X : Cx} {c : Ct} {E : L2.St → XK} {a b e : PySem.Expr} {f g fa fb : Ev} {fs : EvL} {pos p p2 : Pos} {es : List PySem.Expr}
/-! ### slices -/
abbrev EvO := Env → T (Option Int)
def oNo : EvO := fun _ => .ret none
def oSo (f : Ev) : EvO := fun η => (f η).bind fun d => match d with | .int i => .ret (some i) | _ => .bad
def tP (c : Ct) (E : L2.St → XK) (f : EvO) : TO := fun σ H Q => ∃ (η : Env) (S : Hp) (n : Nat), Rel c σ H S η ∧ DrOk c.dr H n ∧
  All (f η) n (fun o m => ∀ H' S', Gd c.tb c.dr H S H' S' → DrOk c.dr H' m → Q o H') (fun e m => Thrown c (E σ) e H S m)
theorem po_imp {o : Option PySem.Expr} {t t' : TO} (h : PO X o t) (k : ∀ σ H Q, t' σ H Q → t σ H Q) : PO X o t' := ⟨fun pins s σ H Q I q => h.run pins s σ H Q I (k σ H Q q)⟩
theorem o_no : PO X none (tP c E oNo) := po_imp po_none fun σ H Q ⟨η, S, n, r, d, al⟩ => al H S (Gd.refl r.sub) d
theorem o_so (h : PE X a (tW c E f)) : PO X (some a) (tP c E (oSo f)) := po_imp (po_some h) fun σ H Q ⟨η, S, n, r, d, al⟩ => ⟨η, S, n, r, d, all_mono (all_bind.mp al) (fun d1 k q v H1 S1 g1 d1' h1 => by
  cases d1 with
  | int i => exact ⟨i, h1.int, q H1 S1 g1 d1'⟩
  | _ => exact (show False from q).elim) fun _ _ t => t⟩
def cutD {α : Type} (xs : List α) (lo hi : Option Int) : List α := (xs.drop (HT.sIx xs.length 0 lo)).take (HT.sIx xs.length xs.length hi - HT.sIx xs.length 0 lo)
def vSl (d : Val) (lo hi : Option Int) : Option Val := match d with
  | .str z => if z.length ≤ 1000000 then some (.str (cutS z lo hi)) else none
  | .lst xs => some (.lst (cutD xs lo hi))
  | .tup xs => some (.tup (cutD xs lo hi))
  | _ => none
def eSl (f : Ev) (lo hi : EvO) : Ev := fun η => (f η).bind fun d => (lo η).bind fun l => (hi η).bind fun h => ofO (vSl d l h)
theorem cut_dv {S : Hp} {xs : List V} {ds : List Val} (h : DVs c.K c.cl S xs ds) (lo hi : Option Int) : DVs c.K c.cl S (cutV xs lo hi) (cutD ds lo hi) := by
  unfold cutV cutD
  rw [h.len]
  exact (h.drop _).take _
theorem d_sl {lo hi : Option PySem.Expr} {fl fh : EvO} (hK : X.K = c.K) (ha : PE X a (tW c E f)) (hl : PO X lo (tP c E fl)) (hh : PO X hi (tP c E fh)) : PE X (.Subscript a (.Slice lo hi none p2) pos) (tE c E (eSl f fl fh)) :=
  pe_imp (pe_slice (r := fun x lo hi H Q => rSlS x lo hi H Q ∨ rSlL X.K x lo hi H Q ∨ rSlP X.K x lo hi H Q) (SlR.or sl_str (SlR.or sl_list sl_tupP)) ha hl hh) fun σ H Q ⟨η, S, n, r, d, al⟩ =>
    ⟨η, S, n, r, d, all_mono (all_bind.mp al) (fun d1 k q v H1 S1 g1 d1' h1 => ⟨η, S1, k, r.grow g1, d1', all_mono (all_bind.mp q) (fun l k q H2 S2 g2 d2' => ⟨η, S2, k, r.grow (g1.trans g2), d2', all_mono (all_bind.mp q) (fun u k q H3 S3 g3 d3' => by
      obtain ⟨o, e, q⟩ := all_ofO.mp q
      have G := (g1.trans g2).trans g3
      have s3 := (r.grow G).sub
      have h3 := (h1.grow g2).grow g3
      unfold vSl at e
      split at e
      · split at e
        · rename_i hz
          cases e
          exact .inl ⟨_, h3.str, small6 hz, q _ H3 S3 G d3' (.str _)⟩
        · cases e
      · cases e
        obtain ⟨p, xs, rfl, hp, hd⟩ := h3.lst s3
        exact .inr (.inl ⟨p, xs, rfl, by rw [hK]; exact hp, fun q' hq => q _ _ _ (G.trans (Gr.alloc s3 hq).d) (d3'.sub (Gr.alloc s3 hq).keep) (DV.newL (s3.free hq) (cut_dv hd l u))⟩)
      · cases e
        obtain ⟨p, xs, rfl, hp, hd⟩ := h3.tup s3
        refine .inr (.inr ⟨p, xs, rfl, by rw [hK]; exact hp, fun hw => ?_, fun _ q' o hq ho => q _ _ _ (G.trans (Gr.alloc s3 hq).d) (d3'.sub (Gr.alloc s3 hq).keep) (DV.newT (s3.free hq) ho (cut_dv hd l u))⟩)
        have e2 : ∀ ds : List Val, ds.length = xs.length → cutD ds l u = ds := fun ds hl => by
          unfold cutD
          rw [hl, hw.1, hw.2, List.drop_zero, Nat.sub_zero]
          exact List.take_of_length_le (Nat.le_of_eq hl)
        rw [e2 _ hd.len.symm] at q
        rcases h3 with h3 | ⟨_, _, _, _, _, ⟨_, _, w, _⟩ | ⟨_, _, w, _⟩⟩
        · exact q _ H3 S3 G d3' h3
        · cases w
        · cases w
      · cases e) fun _ _ t => t.after (g1.trans g2)⟩) fun _ _ t => t.after g1⟩) fun _ _ t => t⟩
/-! ### text methods, join -/
def strsOf : List Val → Option (List Str)
  | [] => some []
  | .str z :: r => (strsOf r).map (z :: ·)
  | _ :: _ => none
theorem strs_v {S : Hp} : ∀ {xs : List V} {ds : List Val} {ys : List Str}, DVs c.K c.cl S xs ds → strsOf ds = some ys → xs = ys.map V.str
  | _, _, _, .nil, e => by cases e; rfl
  | _, .str z :: ds, ys, .cons a b, e => by
    cases a
    cases w : strsOf ds with
    | none => rw [strsOf, w] at e; cases e
    | some zs =>
      rw [strsOf, w] at e
      cases e
      rw [strs_v b w]
      rfl
  | _, .non :: _, _, .cons _ _, e => by cases e
  | _, .bl _ :: _, _, .cons _ _, e => by cases e
  | _, .int _ :: _, _, .cons _ _, e => by cases e
  | _, .tup _ :: _, _, .cons _ _, e => by cases e
  | _, .lst _ :: _, _, .cons _ _, e => by cases e
  | _, .dic _ :: _, _, .cons _ _, e => by cases e
  | _, .fn _ :: _, _, .cons _ _, e => by cases e
  | _, .exc _ _ _ :: _, _, .cons _ _, e => by cases e
def vJoin (z : Str) (d : Val) : Option Val := match d with
  | .lst xs => (strsOf xs).bind fun ys => if (ys.map (·.length)).sum + ys.length * z.length ≤ 1000000 then some (.str (Txt.join z ys)) else none
  | .tup xs => (strsOf xs).bind fun ys => if (ys.map (·.length)).sum + ys.length * z.length ≤ 1000000 then some (.str (Txt.join z ys)) else none
  | _ => none
def eJoin (z : Str) (fb : Ev) : Ev := fun η => (fb η).bind fun d => ofO (vJoin z d)
theorem d_join {z : Str} {apos : Pos} (hK : X.K = c.K) (ho : PE X a (tC (.str z))) (he : PE X e (tW c E fb)) (hs : starEach [e] X.env = [(false, eval e X.env)] := by rfl) (hbase : attributeBase a "join" X.env (eval a X.env) = eval a X.env := by rfl) (hline : (apos.endLine == pos.line) = true := by rfl) :
    PE X (.Call (.Attribute a "join" apos) [e] [] pos) (tE c E (eJoin z fb)) :=
  pe_imp (pe_join ho he hs hbase hline) fun σ H Q ⟨η, S, n, r, d, al⟩ => ⟨⟨z, rfl⟩, η, S, n, r, d, all_mono (all_bind.mp al) (fun d2 k q w H2 S2 g2 d2' h2 => by
      obtain ⟨o, e, q⟩ := all_ofO.mp q
      have s2 := (r.grow g2).sub
      cases d2 with
      | lst xs =>
        obtain ⟨p, vs, rfl, hp, hd⟩ := h2.lst s2
        cases w : strsOf xs with
        | none => rw [vJoin, w] at e; cases e
        | some ys =>
          rw [vJoin, w] at e
          have e' : (if (ys.map (·.length)).sum + ys.length * z.length ≤ 1000000 then some (Val.str (Txt.join z ys)) else none) = some o := e
          split at e'
          · cases e'
            rename_i hz
            refine ⟨z, p, ys, rfl, rfl, .inl ?_, by omega, q _ H2 S2 g2 d2' (.str _)⟩
            rw [hK, ← strs_v hd w]; exact hp
          · cases e'
      | tup xs =>
        obtain ⟨p, vs, rfl, hp, hd⟩ := h2.tup s2
        cases w : strsOf xs with
        | none => rw [vJoin, w] at e; cases e
        | some ys =>
          rw [vJoin, w] at e
          have e' : (if (ys.map (·.length)).sum + ys.length * z.length ≤ 1000000 then some (Val.str (Txt.join z ys)) else none) = some o := e
          split at e'
          · cases e'
            rename_i hz
            refine ⟨z, p, ys, rfl, rfl, .inr ?_, by omega, q _ H2 S2 g2 d2' (.str _)⟩
            rw [hK, ← strs_v hd w]; exact hp
          · cases e'
      | _ => cases e) fun _ _ t => t⟩
/-! ### built-ins -/
def vTuple : List Val → Option Val := fun ds => match ds with | [.lst xs] => some (.tup xs) | [.tup xs] => some (.tup xs) | _ => none
theorem sem_tuple : SemN c (fun xs H Q => ∃ p ys, xs = [V.ref p] ∧ ((SqL c.K H p ys ∧ NewT H ys Q) ∨ (SqT c.K H p ys ∧ Q (.ref p) H))) vTuple := by
  intro xs H S ds o Q s h hg q
  unfold vTuple at hg
  split at hg
  · obtain ⟨v, rfl, hv⟩ := h.one
    cases hg
    obtain ⟨a, vs, rfl, h1, h2⟩ := hv.lst s
    exact ⟨a, vs, rfl, .inl ⟨h1, fun p o hp ho => q _ _ _ (Gr.alloc s hp) (DV.newT (s.free hp) ho h2)⟩⟩
  · obtain ⟨v, rfl, hv⟩ := h.one
    cases hg
    obtain ⟨a, vs, rfl, h1, h2⟩ := hv.tup s
    refine ⟨a, vs, rfl, .inr ⟨h1, ?_⟩⟩
    rcases hv with hv | ⟨_, _, _, _, _, ⟨_, _, w, _⟩ | ⟨_, _, w, _⟩⟩
    · exact q _ H S (Gr.refl s) hv
    · cases w
    · cases w
  · cases hg
def vMax : List Val → Option Val := fun ds => match ds with | [.int i, .int j] => some (.int (if j > i then j else i)) | _ => none
def vMin : List Val → Option Val := fun ds => match ds with | [.int i, .int j] => some (.int (if j < i then j else i)) | _ => none
def vInt : List Val → Option Val := fun ds => match ds with | [.int i] => some (.int i) | [.bl k] => some (.int (if k then 1 else 0)) | _ => none
theorem sem_max : SemN c (fun xs H Q => ∃ i j, xs = [.int i, .int j] ∧ Q (.int (if j > i then j else i)) H) vMax := by
  intro xs H S ds o Q s h hg q
  unfold vMax at hg
  split at hg
  · obtain ⟨v, w, rfl, hv, hw⟩ := h.two
    cases hg
    exact ⟨_, _, by rw [hv.int, hw.int], q _ H S (Gr.refl s) (.int _)⟩
  · cases hg
theorem sem_min : SemN c (fun xs H Q => ∃ i j, xs = [.int i, .int j] ∧ Q (.int (if j < i then j else i)) H) vMin := by
  intro xs H S ds o Q s h hg q
  unfold vMin at hg
  split at hg
  · obtain ⟨v, w, rfl, hv, hw⟩ := h.two
    cases hg
    exact ⟨_, _, by rw [hv.int, hw.int], q _ H S (Gr.refl s) (.int _)⟩
  · cases hg
theorem sem_int : SemN c (fun xs H Q => (∃ i, xs = [.int i] ∧ Q (.int i) H) ∨ ∃ k, xs = [.bl k] ∧ Q (.int (if k then 1 else 0)) H) vInt := by
  intro xs H S ds o Q s h hg q
  unfold vInt at hg
  split at hg
  · obtain ⟨v, rfl, hv⟩ := h.one
    cases hg
    exact .inl ⟨_, by rw [hv.int], q _ H S (Gr.refl s) (.int _)⟩
  · obtain ⟨v, rfl, hv⟩ := h.one
    cases hg
    exact .inr ⟨_, by rw [hv.bl], q _ H S (Gr.refl s) (.int _)⟩
  · cases hg
/-- repr of data -/
def okR (d : Val) : Bool := plainZ d && (toD d).showable && decide ((toD d).depth ≤ 40) && decide ((toD d).shown.length ≤ sizeLine)
def vRepr : List Val → Option Val := fun ds => match ds with | [d] => if okR d = true then some (.str (toD d).shown) else none | _ => none
theorem sem_repr : SemN c (rRepr c.K) vRepr := by
  intro xs H S ds o Q s h hg q
  unfold vRepr at hg
  split at hg
  · obtain ⟨v, rfl, hv⟩ := h.one
    split at hg
    · rename_i hk
      cases hg
      have h1 := (Bool.and_eq_true _ _).mp hk
      have h2 := (Bool.and_eq_true _ _).mp h1.1
      have h3 := (Bool.and_eq_true _ _).mp h2.1
      exact ⟨v, _, rfl, hv.dz s h3.1, h3.2, of_decide_eq_true h2.2, of_decide_eq_true h1.2, q _ H S (Gr.refl s) (.str _)⟩
    · cases hg
  · cases hg
/-- list(x): a new one -/
def vList : Val → Option (List Val)
  | .lst xs => some xs
  | .tup xs => some xs
  | .str z => if z.length ≤ 1000000 then some (z.cps.toList.map fun k => .str ⟨#[k]⟩) else none
  | _ => none
def eList (f : Ev) : Ev := fun η => (f η).bind fun d => ofO ((vList d).map .lst)
def rListA (K : PySem.W.Frag) : List V → Hp → VK → Prop := fun xs H Q => (∃ p ys, xs = [V.ref p] ∧ (SqL K H p ys ∨ SqT K H p ys) ∧ ∀ l, H l = none → Q (.ref l) (upd H l (.lst ys))) ∨ rListS xs H Q
theorem call_listA (hc : X.calm = true) : CallR X (.type "list") (rListA X.K) := CallR.or call_list_of (call_listS hc)
theorem dvs_signs {S : Hp} : ∀ l : List Nat, DVs c.K c.cl S (l.map fun k => V.str ⟨#[k]⟩) (l.map fun k => Val.str ⟨#[k]⟩)
  | [] => .nil
  | k :: l => .cons (.str _) (dvs_signs l)
theorem Rel.none0 {σ : L2.St} {H S H1 S1 : Hp} {η : Env} {p : Addr} (r : Rel c σ H S η) (g : Gd c.tb c.dr H S H1 S1) (h : H1 p = Option.none) : H p = Option.none := by
  cases z : H p with
  | none => rfl
  | some o => exact absurd h (g.dom p o z)
theorem d_listN (hK : X.K = c.K) (hcm : X.calm = true) (hg : Gl X "list") (hm : X.mg "list" = none) (ha : PE X a (tW c E f)) (hs : starEach [a] X.env = (false, eval a X.env) :: starEach [] X.env := by rfl) (hpl : (backTo pos (starEach [] X.env)).any (·.1) = false := by rfl) : PE X (.Call (.Name "list" p) [a] [] pos) (tN c E (eList f)) :=
  pe_imp (pe_callTy (call_listA hcm) hg hm (by decide +kernel) (pa_cons ha pa_nil hs) (by decide) (by decide) hs hpl) fun σ H Q ⟨η, S, n, r, d, al⟩ => ⟨η, S, n, r, d, all_mono (all_bind.mp al) (fun d1 k q v H1 S1 g1 d1' h1 => by
    obtain ⟨o, e, q⟩ := all_ofO.mp q
    have r1 := r.grow g1
    have s1 := r1.sub
    have fin : ∀ {vs : List V} {es : List Val}, DVs c.K c.cl S1 vs es → o = .lst es → ∀ l, H1 l = none → Q (.ref l) (upd H1 l (.lst vs)) := fun {vs es} hv ho l hl => by
      subst ho
      exact q l _ S1 (g1.trans (Gr.alloc0 s1 hl).d) (d1'.sub (Gr.alloc0 s1 hl).keep) (r.none0 g1 hl) (own_new r1 hl hv)
    cases d1 with
    | lst xs =>
      cases e
      obtain ⟨p, vs, rfl, hp, hd⟩ := h1.lst s1
      exact .inl ⟨p, vs, rfl, .inl (by rw [hK]; exact hp), fin hd rfl⟩
    | tup xs =>
      cases e
      obtain ⟨p, vs, rfl, hp, hd⟩ := h1.tup s1
      exact .inl ⟨p, vs, rfl, .inr (by rw [hK]; exact hp), fin hd rfl⟩
    | str z =>
      simp only [vList] at e
      split at e
      · rename_i hz
        cases e
        exact .inr ⟨z, by rw [h1.str], small6 hz, fin (dvs_signs _) rfl⟩
      · cases e
    | _ => cases e) fun _ _ t => t⟩
/-- dict(x), x a tuple or a list of pairs (key, value), no key twice -/
def pairOf : Val → Option (Key × Val)
  | .tup [k, v] => (keyOf k).map fun q => (q, v)
  | _ => none
def pairsOf : List Val → Option (List (Key × Val))
  | [] => some []
  | d :: r => (pairOf d).bind fun q => (pairsOf r).map (q :: ·)
def vDict : Val → Option (List (Key × Val)) := fun d => match d with
  | .tup xs => (pairsOf xs).bind fun ps => if (ps.map (·.1)).Nodup then some ps else none
  | .lst xs => (pairsOf xs).bind fun ps => if (ps.map (·.1)).Nodup then some ps else none
  | _ => none
def eDict (f : Ev) : Ev := fun η => (f η).bind fun d => ofO ((vDict d).map .dic)
theorem pairs_dv {S H : Hp} (s : Sub S H) : ∀ {xs : List V} {ds : List Val} {ps : List (Key × Val)}, DVs c.K c.cl S xs ds → pairsOf ds = some ps → ∃ (as : List Addr) (kvs : List (Key × V)), xs = as.map V.ref ∧ Paired (fun p kv => SqT c.K H p [kV kv.1, kv.2]) as kvs ∧ DVd c.K c.cl S kvs ps ∧ kvs.map (·.1) = ps.map (·.1)
  | _, _, _, .nil, e => by cases e; exact ⟨[], [], rfl, .nil, .nil, rfl⟩
  | _, d :: ds, ps, .cons a b, e => by
    cases w : pairOf d with
    | none => rw [pairsOf, w] at e; cases e
    | some kv =>
      cases w2 : pairsOf ds with
      | none => rw [pairsOf, w, w2] at e; cases e
      | some r =>
        rw [pairsOf, w, w2] at e
        cases e
        obtain ⟨as, kvs, rfl, hp, hd, hk⟩ := pairs_dv s b w2
        unfold pairOf at w
        split at w
        · rename_i k v
          cases w3 : keyOf k with
          | none => rw [w3] at w; cases w
          | some q =>
            rw [w3] at w
            cases w
            cases a with
            | tup h1 h2 =>
              cases h2 with
              | cons x1 h2 =>
              cases h2 with
              | cons x2 h2 =>
              cases h2
              rename_i ad v1 v2
              have : v1 = kV q := key_v (c := c) (S := S) (H := H) (.inl x1) w3
              subst this
              exact ⟨ad :: as, (q, v2) :: kvs, rfl, .cons ((h1.mono s).sq) hp, .cons x2 hd, by rw [List.map_cons, List.map_cons, hk]⟩
        · cases w
theorem own_newD {S H : Hp} {p : Addr} {xs : List (Key × V)} {ds : List (Key × Val)} {σ : L2.St} {η : Env} (rl : Rel c σ H S η) (hp : H p = none) (h : DVd c.K c.cl S xs ds) : OwnAt c S (upd H p (.dK xs)) p (.dic ds) := by
  obtain ⟨h1, h2, h3, _⟩ := own_new (xs := []) (ds := []) rl hp .nil
  exact ⟨h1, h2, h3, .inr ⟨xs, ds, rfl, upd_same, h⟩⟩
theorem d_dictN (hK : X.K = c.K) (hcm : X.calm = true) (hg : Gl X "dict") (hm : X.mg "dict" = none) (ha : PE X a (tE c E f)) (hs : starEach [a] X.env = (false, eval a X.env) :: starEach [] X.env := by rfl) (hpl : (backTo pos (starEach [] X.env)).any (·.1) = false := by rfl) : PE X (.Call (.Name "dict" p) [a] [] pos) (tN c E (eDict f)) :=
  pe_imp (pe_callTy (call_dictT hcm) hg hm (by decide +kernel) (pa_cons ha pa_nil hs) (by decide) (by decide) hs hpl) fun σ H Q ⟨η, S, n, r, d, al⟩ => ⟨η, S, n, r, d, all_mono (all_bind.mp al) (fun d1 k q v H1 S1 g1 d1' h1 => by
    obtain ⟨o, e, q⟩ := all_ofO.mp q
    have r1 := r.grow g1
    have s1 := r1.sub
    have fin : ∀ {kvs : List (Key × V)} {es : List (Key × Val)}, DVd c.K c.cl S1 kvs es → kvs.map (·.1) = es.map (·.1) → (es.map (·.1)).Nodup → o = .dic es → ∀ l, H1 l = none → Q (.ref l) (upd H1 l (.dK (mergeK [] kvs))) := fun {vs es} hv hk hn ho l hl => by
      subst ho
      rw [merge_nil (by rw [hk]; exact hn)]
      exact q l _ S1 (g1.trans (Gr.alloc0 s1 hl).d) (d1'.sub (Gr.alloc0 s1 hl).keep) (r.none0 g1 hl) (own_newD r1 hl hv)
    cases d1 with
    | tup xs =>
      cases w : pairsOf xs with
      | none => rw [vDict, w] at e; cases e
      | some ps =>
        rw [vDict, w] at e
        have e' : ((if (ps.map (·.1)).Nodup then some ps else none).map Val.dic) = some o := e
        split at e'
        · rename_i hn
          cases e'
          cases h1 with
          | tup t1 t2 =>
            obtain ⟨as, kvs, rfl, hp, hd, hk⟩ := pairs_dv s1 t2 w
            exact ⟨_, as, kvs, rfl, .inl (t1.mono s1), by rw [hK]; exact hp, fin hd hk hn rfl⟩
        · cases e'
    | lst xs =>
      cases w : pairsOf xs with
      | none => rw [vDict, w] at e; cases e
      | some ps =>
        rw [vDict, w] at e
        have e' : ((if (ps.map (·.1)).Nodup then some ps else none).map Val.dic) = some o := e
        split at e'
        · rename_i hn
          cases e'
          cases h1 with
          | lst t1 t2 =>
            obtain ⟨as, kvs, rfl, hp, hd, hk⟩ := pairs_dv s1 t2 w
            exact ⟨_, as, kvs, rfl, .inr (by rw [hK]; exact Same.seq s1 t1), by rw [hK]; exact hp, fin hd hk hn rfl⟩
        · cases e'
    | _ => cases e) fun _ _ t => t⟩
end
end EV
end
section
set_option Elab.async false
set_option linter.all false
set_option maxRecDepth 100000
set_option maxHeartbeats 4000000
/-! What changes a def's own lists and dicts; comprehensions of two clauses; calls with defaults. -/
namespace EV
open PySem PySem.Spec PyProof.Rows L2 XK
section
variable {X : Cx} {c : Ct} {E : L2.St → XK} {a b e : PySem.Expr} {f g fa fb : Ev} {fs : EvL} {pos p p2 : Pos} {es : List PySem.Expr} {i : Nat} {x : Str}
/-- an own list, an own dict, changed -/
def onLst (i : Nat) (η : Env) (k : List Val → Option (List Val)) : T Out := match η[i]? with
  | some (some (.lst xs)) => match k xs with
    | some ys => .ret (.nx (η.set i (some (.lst ys))))
    | none => .bad
  | _ => .bad
def onDic (i : Nat) (η : Env) (k : List (Key × Val) → Option (List (Key × Val))) : T Out := match η[i]? with
  | some (some (.dic xs)) => match k xs with
    | some ys => .ret (.nx (η.set i (some (.dic ys))))
    | none => .bad
  | _ => .bad
theorem on_lst {η : Env} {k : List Val → Option (List Val)} {n : Nat} {Q : Out → Nat → Prop} {Er : Err → Nat → Prop} (h : All (onLst i η k) n Q Er) : ∃ xs ys, η[i]? = some (some (.lst xs)) ∧ k xs = some ys ∧ Q (.nx (η.set i (some (.lst ys)))) n := by
  unfold onLst at h
  split at h
  · rename_i xs e
    split at h
    · rename_i ys e2
      exact ⟨xs, ys, e, e2, h⟩
    · exact h.elim
  · exact h.elim
theorem on_dic {η : Env} {k : List (Key × Val) → Option (List (Key × Val))} {n : Nat} {Q : Out → Nat → Prop} {Er : Err → Nat → Prop} (h : All (onDic i η k) n Q Er) : ∃ xs ys, η[i]? = some (some (.dic xs)) ∧ k xs = some ys ∧ Q (.nx (η.set i (some (.dic ys)))) n := by
  unfold onDic at h
  split at h
  · rename_i xs e
    split at h
    · rename_i ys e2
      exact ⟨xs, ys, e, e2, h⟩
    · exact h.elim
  · exact h.elim
/-- an own list as it stands -/
theorem Rel.lst {σ : L2.St} {H S : Hp} {η : Env} (r : Rel c σ H S η) (hi : i ∈ c.ow) {ds : List Val} (e : η[i]? = some (some (.lst ds))) : ∃ l xs, σ[i]? = some (some (.ref l)) ∧ H l = some (.lst xs) ∧ DVs c.K c.cl S xs ds ∧ (∀ {ys : List V} {es : List Val} {n : Nat}, DVs c.K c.cl S ys es → DrOk c.dr H n → Rel c σ (upd H l (.lst ys)) S (η.set i (some (.lst es))) ∧ DrOk c.dr (upd H l (.lst ys)) n) := by
  obtain ⟨l, h1, h2, h3, h4, h5⟩ := r.own i _ e hi
  rcases h5 with ⟨xs, ds', e', h, x⟩ | ⟨_, _, e', _⟩
  · cases e'
    exact ⟨l, xs, h1, h, x, fun {ys es n} hy hd => ⟨r.mut hi e h1 ⟨h2, h3, h4, .inl ⟨ys, es, rfl, upd_same, hy⟩⟩, hd.mut h4⟩⟩
  · cases e'
theorem Rel.dic {σ : L2.St} {H S : Hp} {η : Env} (r : Rel c σ H S η) (hi : i ∈ c.ow) {ds : List (Key × Val)} (e : η[i]? = some (some (.dic ds))) : ∃ l xs, σ[i]? = some (some (.ref l)) ∧ H l = some (.dK xs) ∧ DVd c.K c.cl S xs ds ∧ (∀ {ys : List (Key × V)} {es : List (Key × Val)} {n : Nat}, DVd c.K c.cl S ys es → DrOk c.dr H n → Rel c σ (upd H l (.dK ys)) S (η.set i (some (.dic es))) ∧ DrOk c.dr (upd H l (.dK ys)) n) := by
  obtain ⟨l, h1, h2, h3, h4, h5⟩ := r.own i _ e hi
  rcases h5 with ⟨_, _, e', _⟩ | ⟨xs, ds', e', h, x⟩
  · cases e'
  · cases e'
    exact ⟨l, xs, h1, h, x, fun {ys es n} hy hd => ⟨r.mut hi e h1 ⟨h2, h3, h4, .inr ⟨ys, es, rfl, upd_same, hy⟩⟩, hd.mut h4⟩⟩
theorem own_grow {σ : L2.St} {H S H' S' : Hp} {η : Env} {l : Addr} {o : HO} {d : Val} (r : Rel c σ H S η) (hi : i ∈ c.ow) (e : η[i]? = some (some d)) (h1 : σ[i]? = some (some (.ref l))) (h : H l = some o) (g : Gd c.tb c.dr H S H' S') : H' l = some o := by
  obtain ⟨l', h1', h2, h3, h4, h5⟩ := r.own i _ e hi
  rw [h1] at h1'
  cases h1'
  refine g.keep l o (fun p cc e => (h4 p cc e).1) (fun ps z => ?_) h
  rcases h5 with ⟨_, _, _, k, _⟩ | ⟨_, _, _, k, _⟩ <;> (rw [k] at h; cases h; cases z)
def isLst (i : Nat) (η : Env) (t : T Out) : T Out := match η[i]? with
  | some (some (.lst _)) => t
  | _ => .bad
def isDic (i : Nat) (η : Env) (t : T Out) : T Out := match η[i]? with
  | some (some (.dic _)) => t
  | _ => .bad
theorem is_lst {η : Env} {t : T Out} {n : Nat} {Q : Out → Nat → Prop} {Er : Err → Nat → Prop} (h : All (isLst i η t) n Q Er) : (∃ xs, η[i]? = some (some (.lst xs))) ∧ All t n Q Er := by
  unfold isLst at h
  split at h
  · rename_i xs e; exact ⟨⟨xs, e⟩, h⟩
  · exact h.elim
theorem is_dic {η : Env} {t : T Out} {n : Nat} {Q : Out → Nat → Prop} {Er : Err → Nat → Prop} (h : All (isDic i η t) n Q Er) : (∃ xs, η[i]? = some (some (.dic xs))) ∧ All t n Q Er := by
  unfold isDic at h
  split at h
  · rename_i xs e; exact ⟨⟨xs, e⟩, h⟩
  · exact h.elim
/-- x.append(e) -/
def mApp (i : Nat) (f : Ev) : Sm := fun η => isLst i η ((f η).hd (fun d => onLst i η fun xs => if xs.length < 1000000 then some (xs ++ [d]) else none) fun e => .ret (.ex e η))
section
variable {px apos cpos : Pos}
theorem s_append (hi : i ∈ c.ow) (hv : PE X (.Name x px) (tVar i)) (ha : PE X a (tE c E f)) (hbase : attributeBase (.Name x px) "append" X.env (eval (.Name x px) X.env) = eval (.Name x px) X.env := by rfl)
    (hfew : ((backTo cpos (starEach [a] X.env)).all (fun x => !x.1) && (backToKw cpos (keywordEach [] X.env)).all (fun x => x.1.isSome) && decide (([a] : List PySem.Expr).length + ([] : List Keyword).length + (if ([] : List Keyword).isEmpty then 0 else 1) < 30)) = true := by rfl)
    (hline : (apos.endLine == cpos.line) = true := by rfl) (hs : starEach [a] X.env = (false, eval a X.env) :: starEach [] X.env := by rfl) (hplain : (backTo cpos (starEach [] X.env)).any (·.1) = false := by rfl) (hsw : swapsWith (.Call (.Attribute (.Name x px) "append" apos) [a] [] cpos) Option.none pos.line X.env = pure false := by rfl) :
    PS X (.Expr (.Call (.Attribute (.Name x px) "append" apos) [a] [] cpos) pos) (tS c E (mApp i f)) :=
  ps_imp (ps_expr (pe_bm PySem.F.plainAttrs_list PySem.F.slot_list_append PySem.F.type_list_append mt_append hv (pa_cons ha pa_nil hs) hbase hfew hline hs hplain) hsw) fun D σ H ⟨η, S, n, r, d, al⟩ => by
    obtain ⟨⟨xs0, e0⟩, al⟩ := is_lst al
    obtain ⟨l, xs, h1, h2, _⟩ := r.lst hi e0
    refine ⟨_, h1, .inl ⟨rfl, _, SqL.of h2⟩, η, S, n, r, d, all_mono (all_hd.mp al) (fun d1 k q v H1 S1 g1 d1' hv => ?_) fun e k q => Thrown.of (D := D) r q⟩
    obtain ⟨xs', ys, e1, e2, q⟩ := on_lst q
    split at e2
    · cases e2
      obtain ⟨l', vs, h1', h2', h3, h4⟩ := (r.grow g1).lst hi e1
      rw [h1] at h1'
      cases h1'
      have hl := h3.len
      obtain ⟨r2, d2⟩ := h4 (h3.append (.cons hv .nil)) d1'
      exact ⟨_, vs, _, rfl, rfl, h2', by rw [sizeLine_eq]; omega, q σ _ S1 r2 d2 g1.up⟩
    · cases e2
/-- x.extend(e), e a new list -/
def mExt (i : Nat) (f : Ev) : Sm := fun η => isLst i η ((f η).hd (fun d => match d with | .lst zs => onLst i η fun xs => if xs.length + zs.length < 1000000 then some (xs ++ zs) else none | _ => .bad) fun e => .ret (.ex e η))
theorem s_extend (hi : i ∈ c.ow) (hv : PE X (.Name x px) (tVar i)) (ha : PE X a (tN c E f)) (hbase : attributeBase (.Name x px) "extend" X.env (eval (.Name x px) X.env) = eval (.Name x px) X.env := by rfl)
    (hfew : ((backTo cpos (starEach [a] X.env)).all (fun x => !x.1) && (backToKw cpos (keywordEach [] X.env)).all (fun x => x.1.isSome) && decide (([a] : List PySem.Expr).length + ([] : List Keyword).length + (if ([] : List Keyword).isEmpty then 0 else 1) < 30)) = true := by rfl)
    (hline : (apos.endLine == cpos.line) = true := by rfl) (hs : starEach [a] X.env = (false, eval a X.env) :: starEach [] X.env := by rfl) (hplain : (backTo cpos (starEach [] X.env)).any (·.1) = false := by rfl) (hsw : swapsWith (.Call (.Attribute (.Name x px) "extend" apos) [a] [] cpos) Option.none pos.line X.env = pure false := by rfl) :
    PS X (.Expr (.Call (.Attribute (.Name x px) "extend" apos) [a] [] cpos) pos) (tS c E (mExt i f)) :=
  ps_imp (ps_expr (pe_bm PySem.F.plainAttrs_list PySem.F.slot_list_extend PySem.F.type_list_extend mt_extend hv (pa_cons ha pa_nil hs) hbase hfew hline hs hplain) hsw) fun D σ H ⟨η, S, n, r, d, al⟩ => by
    obtain ⟨⟨xs0, e0⟩, al⟩ := is_lst al
    obtain ⟨l, xs, h1, h2, _⟩ := r.lst hi e0
    refine ⟨_, h1, .inl ⟨rfl, _, SqL.of h2⟩, η, S, n, r, d, all_mono (all_hd.mp al) (fun d1 k q p H1 S1 g1 d1' hp ho => ?_) fun e k q => Thrown.of (D := D) r q⟩
    obtain ⟨o1, o2, o3, o4⟩ := ho
    rcases o4 with ⟨zs, ds, rfl, hz, hdz⟩ | ⟨_, _, rfl, _⟩
    · obtain ⟨xs', ys, e1, e2, q⟩ := on_lst q
      split at e2
      · cases e2
        obtain ⟨l', vs, h1', h2', h3, h4⟩ := (r.grow g1).lst hi e1
        rw [h1] at h1'
        cases h1'
        have hl := h3.len
        have hl2 := hdz.len
        obtain ⟨r2, d2⟩ := h4 (h3.append hdz) d1'
        exact ⟨_, p, vs, zs, rfl, rfl, h2', hz, by rw [sizeLine_eq]; omega, q σ _ S1 r2 d2 g1.up⟩
      · cases e2
    · exact (show False from q).elim
/-- x[i] = e, x an own list -/
def mStore (i : Nat) (fi f : Ev) : Sm := fun η => (f η).hd (fun d => isLst i η ((fi η).hd (fun k => match k with | .int j => onLst i η fun xs => (ixN xs.length j).map fun n => xs.set n d | _ => .bad) fun e => .ret (.ex e η))) fun e => .ret (.ex e η)
theorem s_store {tpos : Pos} (hi : i ∈ c.ow) (hv : PE X (.Name x px) (tVar i)) (ha : PE X a (tE c E f)) (hb : PE X b (tE c E fb))
    (has : ∀ v, assign (.Subscript (.Name x px) b tpos) X.env v = (do
      let ov ← holding [v] (eval (.Name x px) X.env)
      let iv ← holding [v, ov] (eval b X.env); standAt tpos; holding [v, ov, iv] (setItem ov iv v); release [v, ov, iv] []) := by intro _; rfl)
    (hs : swapsWithSole [.Subscript (.Name x px) b tpos] a pos.line X.env = pure false := by rfl) (hw : swappedStores [.Subscript (.Name x px) b tpos] a X.env = pure none := by rfl) (h1 : (assignEach [.Subscript (.Name x px) b tpos] X.env).map (·.2) = [assign (.Subscript (.Name x px) b tpos) X.env] := by rfl) :
    PS X (.Assign [.Subscript (.Name x px) b tpos] a pos) (tS c E (mStore i fb f)) :=
  ps_imp (ps_asg ha (pg_sub hv hb set_list has) hs hw h1) fun D σ H ⟨η, S, n, r, d, al⟩ => ⟨η, S, n, r, d, all_mono (all_hd.mp al) (fun d1 k q v H1 S1 g1 d1' hv1 => by
    obtain ⟨⟨xs0, e0⟩, q⟩ := is_lst q
    have r1 := r.grow g1
    obtain ⟨l, xs, h1, h2, _⟩ := r1.lst hi e0
    refine ⟨_, h1, η, S1, k, r1, d1', all_mono (all_hd.mp q) (fun d2 k q y H2 S2 g2 d2' hy => ?_) fun e k q => (Thrown.of (D := D) r q).after g1⟩
    cases d2 with
    | int j =>
      cases hy
      obtain ⟨xs', ys, e1, e2, q⟩ := on_lst q
      cases z : ixN xs'.length j with
      | none => rw [z] at e2; cases e2
      | some nn =>
        rw [z] at e2
        cases e2
        obtain ⟨l', vs, h1', h2', h3, h4⟩ := (r1.grow g2).lst hi e1
        rw [h1] at h1'
        cases h1'
        obtain ⟨r2, d2⟩ := h4 (DVs.set (hv1.mono g2.up) nn h3) d2'
        exact ⟨_, vs, j, nn, rfl, rfl, h2', by rw [h3.len]; exact z, q σ _ S2 r2 d2 (g1.up.trans g2.up)⟩
    | _ => exact (show False from q).elim) fun e k q => Thrown.of (D := D) r q⟩
/-- x[k] = e, x an own dict -/
def putD (ds : List (Key × Val)) (k : Key) (d : Val) : List (Key × Val) := if (ds.any fun kv => decide (kv.1 = k)) = true then ds.map (fun kv => if kv.1 = k then (kv.1, d) else kv) else ds ++ [(k, d)]
theorem put_dv {S : Hp} {k : Key} {v : V} {d : Val} (h : DV c.K c.cl S v d) {kvs : List (Key × V)} {ds : List (Key × Val)} (x : DVd c.K c.cl S kvs ds) : DVd c.K c.cl S (putK kvs k v) (putD ds k d) := by
  have e : (kvs.any fun kv => decide (kv.1 = k)) = ds.any fun kv => decide (kv.1 = k) := by
    have go : ∀ {kvs : List (Key × V)} {ds : List (Key × Val)}, DVd c.K c.cl S kvs ds → (kvs.any fun kv => decide (kv.1 = k)) = ds.any fun kv => decide (kv.1 = k) := by
      intro kvs
      induction kvs with
      | nil => intro ds x; cases x; rfl
      | cons a r ih => intro ds x; cases x with | cons y z => rw [List.any_cons, List.any_cons, ih z]
    exact go x
  have mp : ∀ {kvs : List (Key × V)} {ds : List (Key × Val)}, DVd c.K c.cl S kvs ds → DVd c.K c.cl S (kvs.map fun kv => if kv.1 = k then (kv.1, v) else kv) (ds.map fun kv => if kv.1 = k then (kv.1, d) else kv) := by
    intro kvs
    induction kvs with
    | nil => intro ds x; cases x; exact .nil
    | cons a r ih =>
      intro ds x
      cases x with
      | @cons k' v' _ d' ds' y z =>
        rw [List.map_cons, List.map_cons]
        by_cases hk : k' = k
        · rw [if_pos hk, if_pos hk]; exact .cons h (ih z)
        · rw [if_neg hk, if_neg hk]; exact .cons y (ih z)
  have ap : ∀ {kvs : List (Key × V)} {ds : List (Key × Val)}, DVd c.K c.cl S kvs ds → DVd c.K c.cl S (kvs ++ [(k, v)]) (ds ++ [(k, d)]) := by
    intro kvs
    induction kvs with
    | nil => intro ds x; cases x; exact .cons h .nil
    | cons a r ih => intro ds x; cases x with | cons y z => exact .cons y (ih z)
  unfold putK putD
  rw [e]
  split
  · exact mp x
  · exact ap x
def mPut (i : Nat) (fk f : Ev) : Sm := fun η => (f η).hd (fun d => isDic i η ((fk η).hd (fun k => match keyOf k with | some q => onDic i η fun xs => if xs.length < 1000000 then some (putD xs q d) else none | none => .bad) fun e => .ret (.ex e η))) fun e => .ret (.ex e η)
theorem s_put {tpos : Pos} (hu : X.A.units + 1 < cLine) (hi : i ∈ c.ow) (hv : PE X (.Name x px) (tVar i)) (ha : PE X a (tE c E f)) (hb : PE X b (tE c E fb)) (hs : swapsWith a (some (.Subscript (.Name x px) b tpos)) pos.line X.env = pure false := by rfl) : PS X (.Assign [.Subscript (.Name x px) b tpos] a pos) (tS c E (mPut i fb f)) :=
  ps_imp (ps_dput hu hv hb ha hs) fun D σ H ⟨η, S, n, r, d, al⟩ => ⟨η, S, n, r, d, all_mono (all_hd.mp al) (fun d1 k q v H1 S1 g1 d1' hv1 => by
    obtain ⟨⟨xs0, e0⟩, q⟩ := is_dic q
    have r1 := r.grow g1
    obtain ⟨l, xs, h1, h2, _⟩ := r1.dic hi e0
    refine ⟨_, h1, η, S1, k, r1, d1', all_mono (all_hd.mp q) (fun d2 k q y H2 S2 g2 d2' hy => ?_) fun e k q => (Thrown.of (D := D) r q).after g1⟩
    split at q
    · rename_i ky hk
      obtain ⟨xs', ys, e1, e2, q⟩ := on_dic q
      split at e2
      · cases e2
        obtain ⟨l', vs, h1', h2', h3, h4⟩ := (r1.grow g2).dic hi e1
        rw [h1] at h1'
        cases h1'
        have hl := h3.len
        obtain ⟨r2, d2⟩ := h4 (put_dv (k := ky) (hv1.mono g2.up) h3) d2'
        refine ⟨_, _, rfl, ?_, q σ _ S2 r2 d2 (g1.up.trans g2.up)⟩
        rw [key_v (c := c) (S := S2) (H := H2) (.inl hy) hk]
        exact DPut.k h2' (by rw [sizeLine_eq]; omega)
      · cases e2
    · exact q.elim) fun e k q => Thrown.of (D := D) r q⟩
end
/-! ### defaults -/
def tCallD (sp : Sp) (dvs : List V) (E : L2.St → XK) (t : TA) : TE := fun σ H Q => t σ H fun vs H1 => sp (vs ++ dvs) H1 Q (E σ)
variable {k : Nat} {fa' : Addr} {fd : FuncData} {ps : List Str} {sp : Sp} {t : TA} {ds : List Value} {dvs : List V} {F : List Val → R} {y : Str}
theorem pe_gd (G : FnG X.prog X.w X.K X.mg X.base k fa' fd ps sp) (cm : Calm k X.A) (hg : Gl X y) (hm : X.mg y = some (.ref fa')) (hk : PySem.W.keepIn X.K (.ref fa') = true) (hb : Binds X.K fd ps ds) (hd : Vals dvs ds) (hx : ∀ σ, PassesAt (L2.CX X.prog X.w) X σ (E σ))
    (ha : PA X (a :: es) t) (hdb : (y == ("__debug__" : Str)) = false := by decide) (he : starEach (a :: es) X.env = (false, eval a X.env) :: starEach es X.env := by rfl) (hpl : (backTo pos (starEach es X.env)).any (·.1) = false := by rfl) :
    PE X (.Call (.Name y p) (a :: es) [] pos) (tCallD sp dvs E t) := by
  refine ⟨fun pins s σ H Q I h => wpAny_Call_Name_kw (ld_glob I hg hm (PySem.W.callWith_K (h₀ := X.base) I.ok.mod.kin hk (thn (ha.run pos pins s σ H _ I h) fun us s1 ⟨vs, H1, I1, r, q⟩ => ⟨I1.kIn, ?_⟩) he hpl) hdb)⟩
  have r2 := r.append hd
  exact wpAny_call (go_fn G cm (hx σ) I1 (hb s1 us I1.kIn (by rw [← r2.length]; exact G.len _ _ _ _ q)) r2 q)
def eCallD (des : List Val) (F : List Val → R) (fs : EvL) : Ev := fun η => (fs η).bind fun xs => ofR (F (xs ++ des))
theorem d_callD {des : List Val} (hde : ∀ S, DVs c.K c.cl S dvs des) (G : FnG X.prog X.w X.K X.mg X.base k fa' fd ps (spP c.K c.cl c.tb F)) (cm : Calm k X.A) (hg : Gl X y) (hm : X.mg y = some (.ref fa')) (hk : PySem.W.keepIn X.K (.ref fa') = true) (hb : Binds X.K fd ps ds) (hd : Vals dvs ds) (hx : ∀ σ, PassesAt (L2.CX X.prog X.w) X σ (E σ))
    (ha : PA X (a :: es) (tA c E fs)) (hdb : (y == ("__debug__" : Str)) = false := by decide) (he : starEach (a :: es) X.env = (false, eval a X.env) :: starEach es X.env := by rfl) (hpl : (backTo pos (starEach es X.env)).any (·.1) = false := by rfl) :
    PE X (.Call (.Name y p) (a :: es) [] pos) (tE c E (eCallD des F fs)) :=
  pe_imp (pe_gd G cm hg hm hk hb hd hx ha hdb he hpl) fun σ H Q ⟨η, S, n, r, d, al⟩ => ⟨η, S, n, r, d, all_mono (all_bind.mp al) (fun ds k q vs H1 S1 g1 d1 h1 => sp_of (r.grow g1).sub (r.grow g1).nt (r.grow g1).tabs (h1.append (hde S1)) d1 g1 q) fun _ _ t => t⟩
end
end EV
end
section
set_option Elab.async false
set_option linter.all false
set_option maxRecDepth 100000
set_option maxHeartbeats 4000000
/-! Comprehensions of two clauses; zip. -/
namespace EV
open PySem PySem.Spec PyProof.Rows L2 XK
def lc2Go (vs1 : List Nat) (η0 : Env) (g : Val → Env → Option Env) (ft : Env → T Bool) (fl1 : EvL) (g1 : Val → Env → Option Env) (ft1 : Env → T Bool) (fe : Ev) : List Val → T (List Val)
  | [] => .ret []
  | d :: r => (ofO (g d η0)).bind fun η1 => (ft η1).hd (fun k => if k = true then (fl1 η1).hd (fun ds1 => if ds1.length ≤ 1000 then (lcGo (wipeE η1 vs1) g1 ft1 fe ds1).bind fun xs => (lc2Go vs1 η0 g ft fl1 g1 ft1 fe r).bind fun ys => .ret (xs ++ ys) else .bad) (fun _ => .bad) else lc2Go vs1 η0 g ft fl1 g1 ft1 fe r) fun _ => .bad
def eLc2 (vs vs1 : List Nat) (fl : EvL) (g : Val → Env → Option Env) (ft : Env → T Bool) (fl1 : EvL) (g1 : Val → Env → Option Env) (ft1 : Env → T Bool) (fe : Ev) : Ev := fun η => (fl η).bind fun ds => if ds.length ≤ 1000 then (lc2Go vs1 (wipeE η vs) g ft fl1 g1 ft1 fe ds).bind fun xs => .ret (.lst xs) else .bad
/-- the slots of the one with the growth of the other: they part only where a list is being made -/
theorem relLoc {c : Ct} {σ σ0 : L2.St} {H S H' S' : Hp} {η η0 : Env} (r : Rel c σ H S η) (r0 : Rel c σ0 H' S' η0) (u : Sub S S') (k : ∀ i ∈ c.ow, ∀ d, η[i]? = some (some d) → ∀ a o, σ[i]? = some (some (.ref a)) → H a = some o → H' a = some o ∧ S' a = none) : Rel c σ H' S' η := by
  refine ⟨r0.g0, r.len, fun i d e n => ?_, fun i d e n => ?_, r.dis, fun p cc e => ?_, r0.nt, r0.tabs⟩
  · obtain ⟨v, h1, h2⟩ := r.loc i d e n
    exact ⟨v, h1, h2.mono u⟩
  · obtain ⟨a, h1, h2, h3, h4, h5⟩ := r.own i d e n
    refine ⟨a, h1, ?_⟩
    rcases h5 with ⟨xs, ds, rfl, h, x⟩ | ⟨xs, ds, rfl, h, x⟩
    · obtain ⟨k1, k2⟩ := k i n _ e a _ h1 h
      exact ⟨k2, h3, h4, .inl ⟨xs, ds, rfl, k1, x.mono u⟩⟩
    · obtain ⟨k1, k2⟩ := k i n _ e a _ h1 h
      exact ⟨k2, h3, h4, .inr ⟨xs, ds, rfl, k1, x.mono u⟩⟩
  · obtain ⟨_, h2, h3, h4, h5⟩ := r.drw p cc e
    exact ⟨(r0.drw p cc e).1, h2, h3, h4, h5⟩
/-- the two loops of a comprehension of two clauses -/
theorem lc_ix2 {J : It} {n : Nat} {g : TG} {tt : TT} {B : L2.St → Hp → (Hp → Prop) → Prop} {vs : List Nat} {σ : L2.St} {H1 : Hp} {D : Addr} {Qd : Hp → Prop} (Pv : Nat → Hp → Prop) (h0 : Pv 0 (upd H1 D (.lst []))) (hgo : ∀ i H, i < n → Pv i H → J.go i H) (hst : ∀ H, Pv n H → J.stop n H)
    (hs : ∀ i H x H', i < n → Pv i H → J.yld i H x H' → g x (L2.wipe σ vs) H' fun σ2 H2 => L2.wipe σ2 vs = L2.wipe σ vs ∧ tt σ2 H2 fun b H3 => if b = true then B σ2 H3 (Pv (i + 1)) else Pv (i + 1) H3) (hd : ∀ H, Pv n H → Qd H) :
    ∃ W : Nat → Nat → Hp → Prop, (∃ m, W 0 m (upd H1 D (.lst []))) ∧ ∀ i m H, W i m H → (J.stop i H ∧ Qd H) ∨ (J.go i H ∧ ∃ Nx : Hp → Prop, (∀ H', Nx H' → ∃ m', m' < m ∧ W (i + 1) m' H') ∧ ∀ x H', J.yld i H x H' → g x (L2.wipe σ vs) H' fun σ2 H2 => L2.wipe σ2 vs = L2.wipe σ vs ∧
      tt σ2 H2 fun b H3 => if b = true then B σ2 H3 Nx else Nx H3) := by
  refine ⟨fun i m H => m = n - i ∧ i ≤ n ∧ Pv i H, ⟨n, by simp, Nat.zero_le _, h0⟩, ?_⟩
  rintro i m H ⟨rfl, hi, p⟩
  by_cases hlt : i < n
  · exact .inr ⟨hgo i H hlt p, Pv (i + 1), fun H' p' => ⟨n - (i + 1), by omega, rfl, hlt, p'⟩, fun x H' y => hs i H x H' hlt p y⟩
  · obtain rfl : i = n := by omega
    exact .inl ⟨hst H p, hd H p⟩
theorem lc_in {J1 : It} {n : Nat} {g1 : TG} {tt1 : TT} {te : TE} {vs1 : List Nat} {σ2 : L2.St} {H4 : Hp} {D : Addr} {Nx : Hp → Prop} (Pv : Nat → Hp → Prop) (h0 : Pv 0 H4) (hgo : ∀ i H, i < n → Pv i H → J1.go i H) (hst : ∀ H, Pv n H → J1.stop n H)
    (hs : ∀ i H x H', i < n → Pv i H → J1.yld i H x H' → g1 x (L2.wipe σ2 vs1) H' fun σ3 H5 => L2.wipe σ3 vs1 = L2.wipe σ2 vs1 ∧ tt1 σ3 H5 fun b H6 => if b = true then te σ3 H6 fun y H7 => ∃ acc, H7 D = some (.lst acc) ∧ acc.length < sizeLine ∧ Pv (i + 1) (upd H7 D (.lst (acc ++ [y]))) else Pv (i + 1) H6) (hd : ∀ H, Pv n H → Nx H) :
    ∃ W1 : Nat → Nat → Hp → Prop, (∃ m, W1 0 m H4) ∧ ∀ j k H, W1 j k H → (J1.stop j H ∧ Nx H) ∨ (J1.go j H ∧ ∃ Nx1 : Hp → Prop, (∀ H', Nx1 H' → ∃ k', k' < k ∧ W1 (j + 1) k' H') ∧ ∀ x H', J1.yld j H x H' → g1 x (L2.wipe σ2 vs1) H' fun σ3 H5 => L2.wipe σ3 vs1 = L2.wipe σ2 vs1 ∧
      tt1 σ3 H5 fun b H6 => if b = true then te σ3 H6 fun y H7 => ∃ acc, H7 D = some (.lst acc) ∧ acc.length < sizeLine ∧ Nx1 (upd H7 D (.lst (acc ++ [y]))) else Nx1 H6) := by
  refine ⟨fun i m H => m = n - i ∧ i ≤ n ∧ Pv i H, ⟨n, by simp, Nat.zero_le _, h0⟩, ?_⟩
  rintro i m H ⟨rfl, hi, p⟩
  by_cases hlt : i < n
  · exact .inr ⟨hgo i H hlt p, Pv (i + 1), fun H' p' => ⟨n - (i + 1), by omega, rfl, hlt, p'⟩, fun x H' y => hs i H x H' hlt p y⟩
  · obtain rfl : i = n := by omega
    exact .inl ⟨hst H p, hd H p⟩
section
variable {X : Cx} {c : Ct} {E : L2.St → XK} {pos : Pos}
theorem lc2_read {wq w1 : Bool} {vs0 vs1 : List Nat} {fl fl1 : EvL} {g g1 : Val → Env → Option Env} {ft ft1 : Env → T Bool} {fe : Ev} (hvs : ∀ i ∈ vs1, i ∈ vs0) (ho : ∀ i ∈ vs0, i ∉ c.ow) (hdr : c.dr = none ∨ c.dsl ∉ vs0) {σ : L2.St} {H : Hp} {Q : VK}
    (h : tN c E (eLc2 vs0 vs1 fl g ft fl1 g1 ft1 fe) σ H Q) : tLc2 (tIc c wq E fl) (tG c wq vs0 g) (tT c E00 ft) (tI c w1 E00 fl1) (tG c w1 vs1 g1) (tT c E00 ft1) (tE c E00 fe) vs0 vs1 σ H Q := by
    obtain ⟨η, S, n, r, d, al⟩ := h
    refine ⟨η, S, n, r, d, all_mono (all_bind.mp al) (fun ds k q J H1 S1 g1' d1 ok => ?_) fun _ _ t => t⟩
    intro D hD
    have r1 := r.grow g1'
    have f0 := own_new (xs := []) (ds := []) r1 hD .nil
    have hDd := f0.2.2.1
    split at q
    case isFalse => exact q.elim
    rename_i hlen
    have rw1 : ∀ {H' S' : Hp}, Gd c.tb c.dr H1 S1 H' S' → Rel c (L2.wipe σ (vs0)) H' S' (wipeE η (vs0)) := fun g => (r1.grow g).wipe ho hdr
    have gD : ∀ {H' S' : Hp} {o : HO}, Gd c.tb c.dr H1 S1 H' S' → S' D = none → (H' D = none ∨ ∃ xs, H' D = some (.lst xs)) → Gd c.tb c.dr H1 S1 (upd H' D o) S' := fun {H' S' o} g hn hHD => by
      refine ⟨fun a u n nt h => ?_, g.up, fun a u h => ?_, g.new, fun a u h => ?_, fun P q t => hHD.elim (fun z => tab_new (g.tab P q t) z) fun ⟨xs, z⟩ => tab_updL (g.tab P q t) z, g.nt⟩
      · rw [upd_ne (ne_of_none h hD)]; exact g.keep a u n nt h
      · have : a ≠ D := fun e => by rw [e, hn] at h; cases h
        rw [upd_ne this]; exact g.sub a u h
      · rw [upd_ne (ne_of_none h hD)]; exact g.dom a u h
    have stay : ∀ {H2 S2 Ha Sa : Hp} {vs : List V}, Gd c.tb c.dr H1 S1 H2 S2 → S2 D = none → H2 D = some (.lst vs) → Gd c.tb c.dr H2 S2 Ha Sa → Sa D = none ∧ Ha D = some (.lst vs) := fun {H2 S2 Ha Sa vs} G hn e2 g => by
      refine ⟨?_, g.keep D _ (fun p cc e => (hDd p cc e).1) (fun _ z => by cases z) e2⟩
      cases z : Sa D with
      | none => rfl
      | some u =>
        rcases g.new D u z with w | w
        · rw [hn] at w; cases w
        · rw [e2] at w; cases w
    let Fin : List Val → Nat → Prop := fun xs m => ∀ a H' S', Gd c.tb c.dr H S H' S' → DrOk c.dr H' m → H a = none → OwnAt c S' H' a (.lst xs) → Q (.ref a) H'
    let Ex : Err → Nat → Prop := fun e m => Thrown c (E σ) e H S m
    let St : Nat → Hp → Prop := fun i H' => ∃ (S' : Hp) (k' : Nat) (vs : List V) (acc : List Val), Gd c.tb c.dr H1 S1 H' S' ∧ DrOk c.dr H' k' ∧ H' D = some (.lst vs) ∧ DVs c.K c.cl S' vs acc ∧ S' D = none ∧ acc.length ≤ i * 1000 ∧ i ≤ ds.length ∧
        All (lc2Go vs1 (wipeE η (vs0)) g ft fl1 g1 ft1 fe (ds.drop i)) k' (fun xs m => Fin (acc ++ xs) m) Ex
    refine lc_ix2 (n := ds.length) St ?_ ?_ ?_ ?_ ?_
    · exact ⟨S1, k, [], [], gD (Gd.refl r1.sub) (r1.sub.free hD) (.inl hD), d1.mut hDd, upd_same, .nil, r1.sub.free hD, Nat.zero_le _, Nat.zero_le _, all_mono (all_bind.mp q) (fun xs m q => q) fun _ _ t => t⟩
    · rintro i H' hi ⟨S', k', vs, acc, g', d', hH, hv, hn, hl, hle, q'⟩
      exact ok.go i H' S' g' hi
    · rintro H' ⟨S', k', vs, acc, g', d', hH, hv, hn, hl, hle, q'⟩
      exact ok.stop H' S' g'
    · rintro i H' x H2 hi ⟨S', k', vs, acc, g', d', hH, hv, hn, hl, hle, q'⟩ y
      have hd : ds[i]? = some ds[i] := by simp [hi]
      obtain ⟨S2, g2, h2⟩ := ok.yld i H' S' x H2 g' y _ hd
      rw [List.drop_eq_getElem_cons hi] at q'
      obtain ⟨η1, e1, q1⟩ := all_ofO.mp (all_bind.mp q')
      have G2 := g'.trans g2.d
      have d2 := d'.sub g2.keep
      obtain ⟨n2, hH2⟩ := stay g' hn hH g2.d
      refine ⟨_, η1, S2, ds[i], rw1 G2, h2, e1, fun σ2 r2 hj => ⟨wipe_eq (hj.2.trans (wipe_length _ _)) fun j h => (hj.1 j h).1, ?_⟩⟩
      refine ⟨η1, S2, k', r2, d2, all_mono (all_hd.mp q1) (fun b m q H3 S3 g3 d3 => ?_) fun e m q => (show False from q).elim⟩
      have G3 := G2.trans g3
      obtain ⟨n3, h3⟩ := stay G2 n2 hH2 g3
      cases b with
      | false =>
        rw [if_neg Bool.false_ne_true] at q
        dsimp only
        rw [if_neg Bool.false_ne_true]
        exact ⟨S3, m, vs, acc, G3, d3, h3, (hv.mono g2.up).mono g3.up, n3, by omega, hi, q⟩
      | true =>
        rw [if_pos rfl] at q
        dsimp only
        rw [if_pos rfl]
        refine ⟨η1, S3, m, r2.grow g3, d3, all_mono (all_hd.mp q) (fun ds1 m q J1 H4 S4 g4 d4 ok1 => ?_) fun e m q => (show False from q).elim⟩
        split at q
        case isFalse => exact q.elim
        rename_i hl1
        have G4 := G3.trans g4
        obtain ⟨n4, h4⟩ := stay G3 n3 h3 g4
        have r4 := (r2.grow g3).grow g4
        have hv4 := ((hv.mono g2.up).mono g3.up).mono g4.up
        refine lc_in (n := ds1.length) (fun j H' => ∃ (S' : Hp) (k' : Nat) (vs' : List V) (acc' : List Val), Gd c.tb c.dr H1 S1 H' S' ∧ Sub S4 S' ∧ DrOk c.dr H' k' ∧ H' D = some (.lst vs') ∧ DVs c.K c.cl S' vs' acc' ∧ S' D = none ∧ acc'.length ≤ i * 1000 + j ∧ j ≤ ds1.length ∧
            All (lcGo (wipeE η1 vs1) g1 ft1 fe (ds1.drop j)) k' (fun xs m => All (lc2Go vs1 (wipeE η (vs0)) g ft fl1 g1 ft1 fe (ds.drop (i + 1))) m (fun ys m => Fin (acc' ++ xs ++ ys) m) Ex) Ex)
          ⟨S4, m, vs, acc, G4, Sub.refl _, d4, h4, hv4, n4, hl, Nat.zero_le _, all_mono (all_bind.mp q) (fun xs m q => all_mono (all_bind.mp q) (fun ys m q => by rw [List.append_assoc]; exact q) fun _ _ t => t) fun _ _ t => t⟩ ?_ ?_ ?_ ?_
        · rintro j H' hj' ⟨S', k', vs', acc', g', u', d', hH, hv, hn, hl, hle, q'⟩
          exact ok1.go j H' S' u' g'.sub hj'
        · rintro H' ⟨S', k', vs', acc', g', u', d', hH, hv, hn, hl, hle, q'⟩
          exact ok1.stop H' S' u' g'.sub
        · rintro j H' x H5 hj' ⟨S', k', vs', acc', g', u', d', hH, hv', hn, hl, hle, q'⟩ y
          have hd1 : ds1[j]? = some ds1[j] := by simp [hj']
          obtain ⟨S5, g5, h5⟩ := ok1.yld j H' S' x H5 u' g'.sub y _ hd1
          rw [List.drop_eq_getElem_cons hj'] at q'
          obtain ⟨η2, e2, q2⟩ := all_ofO.mp (all_bind.mp q')
          have G5 := g'.trans g5.d
          have d5 := d'.sub g5.keep
          obtain ⟨n5, hH5⟩ := stay g' hn hH g5.d
          have r5 : Rel c (L2.wipe σ2 vs1) H5 S5 (wipeE η1 vs1) := by
            refine Rel.wipe ?_ (fun i hi => ho i (hvs i hi)) (hdr.imp id fun h m => h (hvs _ m))
            refine relLoc r4 (r1.grow G5) (u'.trans g5.up) fun i hi d e a o h1 h2 => ?_
            have hni : i ∉ vs0 := fun z => ho i z hi
            obtain ⟨z1, z2⟩ := hj.1 i hni
            rw [z2, wipeE_get hni] at e
            rw [z1, wipe_get hni] at h1
            obtain ⟨a', w1, w2⟩ := r1.own i d e hi
            rw [h1] at w1
            cases w1
            have hO : ∃ o', H1 a = some o' := by
              obtain ⟨_, _, _, w5⟩ := w2
              rcases w5 with ⟨_, _, _, h, _⟩ | ⟨_, _, _, h, _⟩ <;> exact ⟨_, h⟩
            obtain ⟨o', ho'⟩ := hO
            have k4 := own_grow r1 hi e h1 ho' G4
            rw [h2] at k4
            cases k4
            exact ⟨own_grow r1 hi e h1 ho' G5, (w2.grow G5).1⟩
          refine ⟨_, η2, S5, ds1[j], r5, h5, e2, fun σ3 r3 hj => ⟨wipe_eq (hj.2.trans (wipe_length _ _)) fun j h => (hj.1 j h).1, ?_⟩⟩
          refine ⟨η2, S5, k', r3, d5, all_mono (all_hd.mp q2) (fun b m q H6 S6 g6 d6 => ?_) fun e m q => (show False from q).elim⟩
          have G6 := G5.trans g6
          obtain ⟨n6, h6⟩ := stay G5 n5 hH5 g6
          cases b with
          | false =>
            rw [if_neg Bool.false_ne_true] at q
            dsimp only
            rw [if_neg Bool.false_ne_true]
            exact ⟨S6, m, vs', acc', G6, (u'.trans g5.up).trans g6.up, d6, h6, (hv'.mono g5.up).mono g6.up, n6, by omega, hj', q⟩
          | true =>
            rw [if_pos rfl] at q
            dsimp only
            rw [if_pos rfl]
            refine ⟨η2, S6, m, r3.grow g6, d6, all_mono (all_hd.mp q) (fun x m q y H7 S7 g7 d7 h7 => ?_) fun e m q => (show False from q).elim⟩
            obtain ⟨n7, h7'⟩ := stay G6 n6 h6 g7
            have hvl := hv'.len
            refine ⟨vs', h7', by rw [sizeLine_eq]; omega, S7, m, vs' ++ [y], acc' ++ [x], gD (G6.trans g7) n7 (.inr ⟨_, h7'⟩), ((u'.trans g5.up).trans g6.up).trans g7.up, d7.mut hDd, upd_same, (((hv'.mono g5.up).mono g6.up).mono g7.up).append (.cons h7 .nil), n7, by rw [List.length_append]; show acc'.length + 1 ≤ _; omega, hj', ?_⟩
            exact all_mono (all_bind.mp q) (fun xs m q => all_mono q (fun ys m q => by rw [List.append_assoc acc']; exact q) fun _ _ t => t) fun _ _ t => t
        · rintro H' ⟨S', k', vs', acc', g', u', d', hH, hv', hn, hl, hle, q'⟩
          rw [List.drop_length] at q'
          refine ⟨S', k', vs', acc', g', d', hH, hv', hn, by omega, hi, ?_⟩
          exact all_mono q' (fun ys m q => by rw [List.append_nil] at q; exact q) fun _ _ t => t
    · rintro H' ⟨S', k', vs, acc, g', d', hH, hv, hn, hl, hle, q'⟩
      rw [List.drop_length] at q'
      refine q' D H' S' (g1'.trans g') d' ?_ ⟨hn, r1.free0 hD, hDd, .inl ⟨vs, _, rfl, hH, ?_⟩⟩
      · cases z : H D with
        | none => rfl
        | some o => exact absurd hD (g1'.dom D o z)
      · rw [List.append_nil]; exact hv
theorem d_lc2N {wq w1 : Bool} {elt tg iter tg1 iter1 : PySem.Expr} {ifs ifs1 : List PySem.Expr} {scope : Scope} {own : List (Str × Nat)} {vs1 : List Nat} {fl fl1 : EvL} {g g1 : Val → Env → Option Env} {ft ft1 : Env → T Bool} {fe : Ev} (hc : X.calm = true) (hN : X.N.Nodup) (hi : PI X tg iter (tIc c wq E fl)) (ok : BlkOk X.N X.env.scope scope own)
    (hvs : ∀ i ∈ vs1, i ∈ own.map (·.2)) (ho : ∀ i ∈ own.map (·.2), i ∉ c.ow) (hdr : c.dr = none ∨ c.dsl ∉ own.map (·.2))
    (hg : ∀ (s : Shared) (H : Hp) (C : Addr) (cl : List (Str × Addr)) (fp : List Addr), PG (X.blk s H scope (compEnvC scope cl C X.env) fp) tg (tG c wq (own.map (·.2)) g)) (ht : ∀ (s : Shared) (H : Hp) (C : Addr) (cl : List (Str × Addr)) (fp : List Addr), PTs (X.blk s H scope (compEnvC scope cl C X.env) fp) ifs (tT c E00 ft))
    (hi1 : ∀ (s : Shared) (H : Hp) (C : Addr) (cl : List (Str × Addr)) (fp : List Addr), PI (X.blk s H scope (compEnvC scope cl C X.env) fp) tg1 iter1 (tI c w1 E00 fl1))
    (hg1 : ∀ (s : Shared) (H : Hp) (C : Addr) (cl : List (Str × Addr)) (fp : List Addr), PG (X.blk s H scope (compEnvC scope cl C X.env) fp) tg1 (tG c w1 vs1 g1)) (ht1 : ∀ (s : Shared) (H : Hp) (C : Addr) (cl : List (Str × Addr)) (fp : List Addr), PTs (X.blk s H scope (compEnvC scope cl C X.env) fp) ifs1 (tT c E00 ft1))
    (he : ∀ (s : Shared) (H : Hp) (C : Addr) (cl : List (Str × Addr)) (fp : List Addr), PE (X.blk s H scope (compEnvC scope cl C X.env) fp) elt (tE c E00 fe)) (hs : ∀ x, foldedSetIterable iter X.env x = pure x := by intro _; rfl) (hs1 : ∀ env x, foldedSetIterable iter1 env x = pure x := by intro _ _; rfl) :
    PE X (.ListComp elt [⟨tg, iter, ifs, 0⟩, ⟨tg1, iter1, ifs1, 0⟩] scope pos) (tN c E (eLc2 (own.map (·.2)) vs1 fl g ft fl1 g1 ft1 fe)) :=
  pe_imp (pe_lc2 hc hN hi ok hvs hg ht hi1 hg1 ht1 he hs hs1) fun σ H Q h => lc2_read hvs ho hdr h
theorem s_setLc2 {wq w1 : Bool} {i : Nat} {y : Str} {py spos : Pos} {elt tg iter tg1 iter1 : PySem.Expr} {ifs ifs1 : List PySem.Expr} {scope : Scope} {own : List (Str × Nat)} {vs1 : List Nat} {fl fl1 : EvL} {g g1 : Val → Env → Option Env} {ft ft1 : Env → T Bool} {fe : Ev} (hio : i ∉ c.ow) (hid : c.dr = none ∨ i ≠ c.dsl) (hc : X.calm = true) (hN : X.N.Nodup) (hy : X.N[i]? = some y) (hyl : X.env.scope.names.lookup y = some .local)
    (hsw : swapsWith (.ListComp elt [⟨tg, iter, ifs, 0⟩, ⟨tg1, iter1, ifs1, 0⟩] scope pos) (some (.Name y py)) spos.line X.env = pure true) (hi : PI X tg iter (tIc c wq E fl)) (ok : BlkOk X.N X.env.scope scope own)
    (hvs : ∀ i ∈ vs1, i ∈ own.map (·.2)) (ho : ∀ i ∈ own.map (·.2), i ∉ c.ow) (hdr : c.dr = none ∨ c.dsl ∉ own.map (·.2))
    (hg : ∀ (s : Shared) (H : Hp) (C : Addr) (cl : List (Str × Addr)) (fp : List Addr), PG (X.blk s H scope (compEnvC scope cl C X.env) fp) tg (tG c wq (own.map (·.2)) g)) (ht : ∀ (s : Shared) (H : Hp) (C : Addr) (cl : List (Str × Addr)) (fp : List Addr), PTs (X.blk s H scope (compEnvC scope cl C X.env) fp) ifs (tT c E00 ft))
    (hi1 : ∀ (s : Shared) (H : Hp) (C : Addr) (cl : List (Str × Addr)) (fp : List Addr), PI (X.blk s H scope (compEnvC scope cl C X.env) fp) tg1 iter1 (tI c w1 E00 fl1))
    (hg1 : ∀ (s : Shared) (H : Hp) (C : Addr) (cl : List (Str × Addr)) (fp : List Addr), PG (X.blk s H scope (compEnvC scope cl C X.env) fp) tg1 (tG c w1 vs1 g1)) (ht1 : ∀ (s : Shared) (H : Hp) (C : Addr) (cl : List (Str × Addr)) (fp : List Addr), PTs (X.blk s H scope (compEnvC scope cl C X.env) fp) ifs1 (tT c E00 ft1))
    (he : ∀ (s : Shared) (H : Hp) (C : Addr) (cl : List (Str × Addr)) (fp : List Addr), PE (X.blk s H scope (compEnvC scope cl C X.env) fp) elt (tE c E00 fe)) (hs : ∀ x, foldedSetIterable iter X.env x = pure x := by intro _; rfl) (hs1 : ∀ env x, foldedSetIterable iter1 env x = pure x := by intro _ _; rfl) :
    PS X (.Assign [.Name y py] (.ListComp elt [⟨tg, iter, ifs, 0⟩, ⟨tg1, iter1, ifs1, 0⟩] scope pos) spos) (tS c E (mSet i (eLc2 (own.map (·.2)) vs1 fl g ft fl1 g1 ft1 fe))) :=
  ps_imp (ps_setLc2 hc hN hy hyl hsw hi ok hvs hg ht hi1 hg1 ht1 he hs hs1) fun _ _ _ h => lc2_read (Q := fun v H => gName i v _ H _) hvs ho hdr (sh_read (asg_read hio hid h))
theorem s_ownLc2 {wq w1 : Bool} {i : Nat} {y : Str} {py spos : Pos} {elt tg iter tg1 iter1 : PySem.Expr} {ifs ifs1 : List PySem.Expr} {scope : Scope} {own : List (Str × Nat)} {vs1 : List Nat} {fl fl1 : EvL} {g g1 : Val → Env → Option Env} {ft ft1 : Env → T Bool} {fe : Ev} (hio : i ∈ c.ow) (hid : c.dr = none ∨ i ≠ c.dsl) (hc : X.calm = true) (hN : X.N.Nodup) (hy : X.N[i]? = some y) (hyl : X.env.scope.names.lookup y = some .local)
    (hsw : swapsWith (.ListComp elt [⟨tg, iter, ifs, 0⟩, ⟨tg1, iter1, ifs1, 0⟩] scope pos) (some (.Name y py)) spos.line X.env = pure true) (hi : PI X tg iter (tIc c wq E fl)) (ok : BlkOk X.N X.env.scope scope own)
    (hvs : ∀ i ∈ vs1, i ∈ own.map (·.2)) (ho : ∀ i ∈ own.map (·.2), i ∉ c.ow) (hdr : c.dr = none ∨ c.dsl ∉ own.map (·.2))
    (hg : ∀ (s : Shared) (H : Hp) (C : Addr) (cl : List (Str × Addr)) (fp : List Addr), PG (X.blk s H scope (compEnvC scope cl C X.env) fp) tg (tG c wq (own.map (·.2)) g)) (ht : ∀ (s : Shared) (H : Hp) (C : Addr) (cl : List (Str × Addr)) (fp : List Addr), PTs (X.blk s H scope (compEnvC scope cl C X.env) fp) ifs (tT c E00 ft))
    (hi1 : ∀ (s : Shared) (H : Hp) (C : Addr) (cl : List (Str × Addr)) (fp : List Addr), PI (X.blk s H scope (compEnvC scope cl C X.env) fp) tg1 iter1 (tI c w1 E00 fl1))
    (hg1 : ∀ (s : Shared) (H : Hp) (C : Addr) (cl : List (Str × Addr)) (fp : List Addr), PG (X.blk s H scope (compEnvC scope cl C X.env) fp) tg1 (tG c w1 vs1 g1)) (ht1 : ∀ (s : Shared) (H : Hp) (C : Addr) (cl : List (Str × Addr)) (fp : List Addr), PTs (X.blk s H scope (compEnvC scope cl C X.env) fp) ifs1 (tT c E00 ft1))
    (he : ∀ (s : Shared) (H : Hp) (C : Addr) (cl : List (Str × Addr)) (fp : List Addr), PE (X.blk s H scope (compEnvC scope cl C X.env) fp) elt (tE c E00 fe)) (hs : ∀ x, foldedSetIterable iter X.env x = pure x := by intro _; rfl) (hs1 : ∀ env x, foldedSetIterable iter1 env x = pure x := by intro _ _; rfl) :
    PS X (.Assign [.Name y py] (.ListComp elt [⟨tg, iter, ifs, 0⟩, ⟨tg1, iter1, ifs1, 0⟩] scope pos) spos) (tS c E (mSet i (eLc2 (own.map (·.2)) vs1 fl g ft fl1 g1 ft1 fe))) :=
  ps_imp (ps_setLc2 hc hN hy hyl hsw hi ok hvs hg ht hi1 hg1 ht1 he hs hs1) fun _ _ _ h => lc2_read (Q := fun v H => gName i v _ H _) hvs ho hdr (own_read hio hid h)
end
end EV
end
section
set_option Elab.async false
set_option linter.all false
set_option maxRecDepth 100000
set_option maxHeartbeats 4000000
/-! a, b = x, y: shared values and new own things side by side. -/
namespace EV
open PySem PySem.Spec PyProof.Rows L2 XK
/-- values for the slots is; as: the own ones' places, new since H0 -/
inductive MX (c : Ct) (H0 S H : Hp) : List Nat → List V → List Val → List Addr → Prop
  | nil : MX c H0 S H [] [] [] []
  | sh {i : Nat} {v : V} {d : Val} {is : List Nat} {vs : List V} {ds : List Val} {as : List Addr} : i ∉ c.ow → (c.dr = none ∨ i ≠ c.dsl) → DV c.K c.cl S v d → MX c H0 S H is vs ds as → MX c H0 S H (i :: is) (v :: vs) (d :: ds) as
  | ow {i : Nat} {a : Addr} {d : Val} {is : List Nat} {vs : List V} {ds : List Val} {as : List Addr} : i ∈ c.ow → (c.dr = none ∨ i ≠ c.dsl) → OwnAt c S H a d → H0 a = none → a ∉ as → MX c H0 S H is vs ds as → MX c H0 S H (i :: is) (.ref a :: vs) (d :: ds) (a :: as)
def tM (c : Ct) (E : L2.St → XK) (is : List Nat) (f : EvL) : TA := fun σ H Q => ∃ (η : Env) (S : Hp) (n : Nat), Rel c σ H S η ∧ DrOk c.dr H n ∧
  All (f η) n (fun ds m => ∀ vs as H' S', Gd c.tb c.dr H S H' S' → DrOk c.dr H' m → MX c H S' H' is vs ds as → (∀ a ∈ as, H a = none) → Q vs H') (fun e m => Thrown c (E σ) e H S m)
def setA {α : Type} : List (Option α) → List Nat → List α → List (Option α)
  | l, i :: is, v :: vs => setA (l.set i (some v)) is vs
  | l, _, _ => l
section
variable {X : Cx} {c : Ct} {E : L2.St → XK} {a b e : PySem.Expr} {f g fa fb : Ev} {fs : EvL} {pos p p2 : Pos} {es : List PySem.Expr} {i : Nat} {x : Str} {is : List Nat}
theorem m_nil : PA X [] (tM c E [] aNil) := pa_imp pa_nil fun σ H Q ⟨η, S, n, r, d, al⟩ => al [] [] H S (Gd.refl r.sub) d .nil (fun _ h => nomatch h)
theorem MX.new {H0 H1 S H : Hp} (k : ∀ a, H1 a = none → H0 a = none) : ∀ {is : List Nat} {vs : List V} {ds : List Val} {as : List Addr}, MX c H1 S H is vs ds as → MX c H0 S H is vs ds as
  | _, _, _, _, .nil => .nil
  | _, _, _, _, .sh h1 h2 h3 r => .sh h1 h2 h3 (MX.new k r)
  | _, _, _, _, .ow h1 h2 h3 h4 h5 r => .ow h1 h2 h3 (k _ h4) h5 (MX.new k r)
theorem m_sh (hi : i ∉ c.ow) (hd : c.dr = none ∨ i ≠ c.dsl) (ha : PE X a (tE c E f)) (hr : PA X es (tM c E is fs)) (hs : starEach (a :: es) X.env = (false, eval a X.env) :: starEach es X.env := by rfl) : PA X (a :: es) (tM c E (i :: is) (aCons f fs)) :=
  pa_imp (pa_cons ha hr hs) fun σ H Q ⟨η, S, n, r, d, al⟩ => ⟨η, S, n, r, d, all_mono (all_bind.mp al) (fun d1 m q v H1 S1 g1 dr1 h1 => ⟨η, S1, m, r.grow g1, dr1, all_mono (all_bind.mp q) (fun ds k q vs as H2 S2 g2 dr2 h2 hn => by
    have kn : ∀ p, H1 p = none → H p = none := fun p => r.none0 g1
    exact q _ as H2 S2 (g1.trans g2) dr2 (.sh hi hd (h1.mono g2.up) (h2.new kn)) fun p hp => kn p (hn p hp)) fun _ _ t => t.after g1⟩) fun _ _ t => t⟩
theorem m_ow (hi : i ∈ c.ow) (hd : c.dr = none ∨ i ≠ c.dsl) (ha : PE X a (tN c E f)) (hr : PA X es (tM c E is fs)) (hs : starEach (a :: es) X.env = (false, eval a X.env) :: starEach es X.env := by rfl) : PA X (a :: es) (tM c E (i :: is) (aCons f fs)) :=
  pa_imp (pa_cons ha hr hs) fun σ H Q ⟨η, S, n, r, d, al⟩ => ⟨η, S, n, r, d, all_mono (all_bind.mp al) (fun d1 m q p H1 S1 g1 dr1 hp h1 => ⟨η, S1, m, r.grow g1, dr1, all_mono (all_bind.mp q) (fun ds k q vs as H2 S2 g2 dr2 h2 hn => by
    have kn : ∀ p, H1 p = none → H p = none := fun p => r.none0 g1
    have hp1 : p ∉ as := fun hm => by
      have := hn p hm
      obtain ⟨_, _, _, h5⟩ := h1
      rcases h5 with ⟨_, _, _, h, _⟩ | ⟨_, _, _, h, _⟩ <;> rw [this] at h <;> cases h
    exact q _ (p :: as) H2 S2 (g1.trans g2) dr2 (.ow hi hd (h1.grow g2) hp hp1 (h2.new kn)) fun b hb => by
      rcases List.mem_cons.mp hb with rfl | hb
      · exact hp
      · exact kn b (hn b hb)) fun _ _ t => t.after g1⟩) fun _ _ t => t⟩
/-- all stored -/
theorem rel_setA {H0 H S : Hp} : ∀ {is : List Nat} {vs : List V} {ds : List Val} {as : List Addr}, MX c H0 S H is vs ds as → ∀ {σ : L2.St} {η : Env} (dn : List Addr), Rel c σ H S η → (∀ j d b, j ∈ c.ow → η[j]? = some (some d) → σ[j]? = some (some (.ref b)) → H0 b ≠ none ∨ b ∈ dn) → (∀ b ∈ as, b ∉ dn) →
    Rel c (setA σ is vs) H S (setA η is ds)
  | _, _, _, _, .nil, _, _, _, r, _, _ => r
  | _, _, _, _, .sh (i := i) (v := v) (d := d) h1 h2 h3 m, σ, η, dn, r, k, kd => rel_setA m dn (r.set h1 h2 h3) (fun j e b hj z w => by
      have ne : i ≠ j := fun q => h1 (by rw [q]; exact hj)
      rw [List.getElem?_set_ne ne] at z w
      exact k j e b hj z w) kd
  | _, _, _, _, .ow (i := i) (a := a) (d := d) h1 h2 h3 h4 h5 m, σ, η, dn, r, k, kd => rel_setA m (a :: dn) (r.setOwn h1 h2 h3 fun j e hj hji z w => by
      rcases k j e a hj z w with q | q
      · exact q h4
      · exact kd a List.mem_cons_self q) (fun j e b hj z w => by
      rcases get_set z with ⟨rfl, hl, q⟩ | ⟨q, z⟩
      · rw [List.getElem?_set_self (by rw [← r.len]; exact hl)] at w
        cases w
        exact .inr List.mem_cons_self
      · rw [List.getElem?_set_ne (Ne.symm q)] at w
        rcases k j e b hj z w with q | q
        · exact .inl q
        · exact .inr (List.mem_cons_of_mem _ q)) fun b hb hm => by
      rcases List.mem_cons.mp hm with rfl | hm
      · exact h5 hb
      · exact kd b (List.mem_cons_of_mem _ hb) hm
theorem rel_setA' {σ : L2.St} {η : Env} {H S H1 S1 : Hp} {vs : List V} {ds : List Val} {as : List Addr} (r : Rel c σ H S η) (g : Gd c.tb c.dr H S H1 S1) (m : MX c H S1 H1 is vs ds as) : Rel c (setA σ is vs) H1 S1 (setA η is ds) :=
  rel_setA m [] (r.grow g) (fun j d b hj z w => .inl (by
    obtain ⟨b', w', _, _, _, h5⟩ := r.own j d z hj
    rw [w] at w'
    cases w'
    rcases h5 with ⟨_, _, _, h, _⟩ | ⟨_, _, _, h, _⟩ <;> rw [h] <;> exact fun z => by cases z)) fun _ _ h => nomatch h
def mPars (is : List Nat) (fs : EvL) : Sm := fun η => (fs η).hd (fun ds => .ret (.nx (setA η is ds))) fun e => .ret (.ex e η)
theorem s_par2 {j : Nat} {x y : Str} {px py pt : Pos} {kt k2 : Nat} {pt2 : Pos} (hc : X.calm = true) (hN : X.N.Nodup) (hi : X.N[i]? = some x) (hj : X.N[j]? = some y) (hij : i ≠ j) (hx : X.env.scope.names.lookup x = some .local) (hy : X.env.scope.names.lookup y = some .local) (ha : PA X [a, b] (tM c E [i, j] fs))
    (hw : swappedStores [.Tuple [.Name x px, .Name y py] kt pt] (.Tuple [a, b] k2 pt2) X.env = pure (some [x, y])) (hs : swapsWithSole [.Tuple [.Name x px, .Name y py] kt pt] (.Tuple [a, b] k2 pt2) pos.line X.env = pure false := by rfl) : PS X (.Assign [.Tuple [.Name x px, .Name y py] kt pt] (.Tuple [a, b] k2 pt2) pos) (tS c E (mPars [i, j] fs)) :=
  ps_imp (ps_par hc hN hi hj hij hx hy ha hw hs) fun D σ H ⟨η, S, n, r, d, al⟩ => ⟨η, S, n, r, d, all_mono (all_hd.mp al) (fun ds k q vs as H1 S1 g1 d1 hm hn => by
    have r1 := rel_setA' r g1 hm
    have two : ∃ v w, vs = [v, w] := by
      cases hm with
      | sh _ _ _ m => cases m with
        | sh _ _ _ m => cases m; exact ⟨_, _, rfl⟩
        | ow _ _ _ _ _ m => cases m; exact ⟨_, _, rfl⟩
      | ow _ _ _ _ _ m => cases m with
        | sh _ _ _ m => cases m; exact ⟨_, _, rfl⟩
        | ow _ _ _ _ _ m => cases m; exact ⟨_, _, rfl⟩
    obtain ⟨v, w, rfl⟩ := two
    exact ⟨v, w, rfl, q _ H1 S1 r1 d1 g1.up⟩) fun e k q => Thrown.of (D := D) r q⟩
/-- the tuple is built -/
def gNames : List Nat → TGs
  | [] => gNil
  | i :: is => gCons (gName i) (gNames is)
theorem names_read : ∀ {is : List Nat} {vs : List V} {σ : L2.St} {H : Hp} {Q : L2.St → Hp → Prop}, is.length = vs.length → Q (setA σ is vs) H → gNames is vs σ H Q
  | [], [], _, _, _, _, q => ⟨rfl, q⟩
  | i :: is, v :: vs, σ, H, Q, hl, q => ⟨v, vs, rfl, names_read (by simpa using hl) q⟩
theorem MX.len {H0 S H : Hp} : ∀ {is : List Nat} {vs : List V} {ds : List Val} {as : List Addr}, MX c H0 S H is vs ds as → is.length = vs.length
  | _, _, _, _, .nil => rfl
  | _, _, _, _, .sh _ _ _ m => by rw [List.length_cons, List.length_cons, MX.len m]
  | _, _, _, _, .ow _ _ _ _ _ m => by rw [List.length_cons, List.length_cons, MX.len m]
theorem MX.up {H0 S H S' H' : Hp} (g : Gd c.tb c.dr H S H' S') : ∀ {is : List Nat} {vs : List V} {ds : List Val} {as : List Addr}, MX c H0 S H is vs ds as → MX c H0 S' H' is vs ds as
  | _, _, _, _, .nil => .nil
  | _, _, _, _, .sh h1 h2 h3 m => .sh h1 h2 (h3.mono g.up) (MX.up g m)
  | _, _, _, _, .ow h1 h2 h3 h4 h5 m => .ow h1 h2 (h3.grow g) h4 h5 (MX.up g m)
theorem s_pars {ts : List PySem.Expr} {kt k2 : Nat} {pt pt2 : Pos} (hl : is.length ≤ 100) (he : PA X es (tM c E is fs)) (hg : PG X (.Tuple ts kt pt) (gTup X.K is.length (gNames is))) (hs : swapsWithSole [.Tuple ts kt pt] (.Tuple es k2 pt2) pos.line X.env = pure false := by rfl) (hw : swappedStores [.Tuple ts kt pt] (.Tuple es k2 pt2) X.env = pure none := by rfl)
    (h1 : (assignEach [.Tuple ts kt pt] X.env).map (·.2) = [assign (.Tuple ts kt pt) X.env] := by rfl) : PS X (.Assign [.Tuple ts kt pt] (.Tuple es k2 pt2) pos) (tS c E (mPars is fs)) :=
  ps_imp (ps_asg (pe_tup he) hg hs hw h1) fun D σ H ⟨η, S, n, r, d, al⟩ => ⟨η, S, n, r, d, all_mono (all_hd.mp al) (fun ds k q vs as H1 S1 g1 d1 hm hn => by
    have e1 := hm.len
    refine ⟨by rw [← e1, sizeLine_eq]; omega, fun p hp => ?_⟩
    have r1 := r.grow g1
    have ga := (Gr.alloc0 (o := HO.tup vs) r1.sub hp)
    have G := g1.trans ga.d
    exact ⟨p, vs, rfl, SqT.of upd_same, e1.symm, names_read e1 (q _ _ S1 (rel_setA' r G (hm.up ga.d)) (d1.sub ga.keep) g1.up)⟩) fun e k q => Thrown.of (D := D) r q⟩
end
end EV
end
section
set_option Elab.async false
set_option linter.all false
set_option maxRecDepth 100000
set_option maxHeartbeats 4000000
/-! Small things that the terms of defs need. -/
namespace EV
open PySem PySem.Spec PyProof.Rows L2 XK
theorem mn {i : Nat} {l : List Nat} (h : l.contains i = false) : i ∉ l := by
  intro z
  rw [List.contains_iff_mem.mpr z] at h
  cases h
theorem mi {i : Nat} {l : List Nat} (h : l.contains i = true) : i ∈ l := List.contains_iff_mem.mp h
theorem ma {l o : List Nat} (h : l.all (fun i => !o.contains i) = true) : ∀ i ∈ l, i ∉ o := fun i hi => by
  have := List.all_eq_true.mp h i hi
  exact mn (by cases z : o.contains i <;> simp_all)
section
variable {X : Cx} {c : Ct} {E : L2.St → XK} {a b e : PySem.Expr} {f g fa fb : Ev} {fs : EvL} {pos p p2 : Pos} {es : List PySem.Expr} {i : Nat} {x : Str}
theorem d_int {j : Int} {k : Nat} : PE X (.Constant (.int j) k pos) (tE c E fun _ => .ret (.int j)) := d_c (fun _ => .int j) pe_int
theorem d_str {j : Str} {k : Nat} : PE X (.Constant (.str j) k pos) (tE c E fun _ => .ret (.str j)) := d_c (fun _ => .str j) pe_str
theorem d_bl {j : Bool} {k : Nat} : PE X (.Constant (.bool j) k pos) (tE c E fun _ => .ret (.bl j)) := d_c (fun _ => .bl j) pe_bl
theorem d_non {k : Nat} : PE X (.Constant .none k pos) (tE c E fun _ => .ret .non) := d_c (fun _ => .non) pe_non
theorem d_gi {j : Int} (hg : Gl X x) (h : ∃ u, X.mg x = some u ∧ RelV (.int j) u) (hd : (x == ("__debug__" : Str)) = false := by decide) : PE X (.Name x pos) (tE c E fun _ => .ret (.int j)) := d_c (fun _ => .int j) (pe_gk1 hg h hd)
theorem d_gs {j : Str} (hg : Gl X x) (h : ∃ u, X.mg x = some u ∧ RelV (.str j) u) (hd : (x == ("__debug__" : Str)) = false := by decide) : PE X (.Name x pos) (tE c E fun _ => .ret (.str j)) := d_c (fun _ => .str j) (pe_gk1 hg h hd)
def eNeg (f : Ev) : Ev := fun η => (f η).bind fun d => match d with | .int i => .ret (.int (-i)) | _ => .bad
theorem d_neg (ha : PE X a (tE c E f)) : PE X (.UnaryOp .USub a pos) (tE c E (eNeg f)) :=
  pe_imp (pe_un un_neg ha) fun σ H Q ⟨η, S, n, rl, dr, al⟩ => ⟨η, S, n, rl, dr, all_mono (all_bind.mp al) (fun d m q v H1 S1 g1 dr1 h1 => by
    cases d with
    | int k =>
      cases h1
      exact ⟨k, rfl, q _ H1 S1 g1 dr1 (.int _)⟩
    | _ => exact (show False from q).elim) fun _ _ t => t⟩
def vMulA : Val → Val → Option Val
  | .int i, .int j => if okMul i j = true then some (.int (i * j)) else none
  | .str z, .int k => if 0 ≤ k ∧ k ≤ 1000 ∧ z.length ≤ 1000 then some (.str (repS k.toNat z)) else none
  | _, _ => none
theorem cmul {i j : Int} (h : okMul i j = true) : CMul i j := by
  unfold okMul at h
  rw [Bool.or_eq_true, Bool.and_eq_true, Bool.and_eq_true] at h
  rcases h with ⟨h1, h2⟩ | ⟨h1, h2⟩
  · exact .inl ⟨of_decide_eq_true h1, of_decide_eq_true h2⟩
  · exact .inr ⟨of_decide_eq_true h1, of_decide_eq_true h2⟩
theorem d_mul (ha : PE X a (tW c E fa)) (hb : PE X b (tW c E fb)) : PE X (.BinOp a .Mult b pos) (tE c E (eBin vMulA fa fb)) :=
  d_bin (OpR.or op_mul op_mulS) ((Sem2.or (sem_iiC (ok := okMul) (gi := fun i j => .int (i * j)) (fun _ _ h => cmul h) fun _ _ _ => .int _) sem_mulS).congr fun d e => by
    cases d <;> cases e <;> simp only [vMulA, vMulS] <;> (first | rfl | (split <;> simp_all))) ha hb
/-- a new list some times -/
theorem d_repN (ha : PE X a (tN c E fa)) (hb : PE X b (tE c E fb)) : PE X (.BinOp a .Mult b pos) (tN c E (eBin vMulL fa fb)) :=
  pe_imp (pe_op op_rep ha hb) fun σ H Q ⟨η, S, n, rl, dr, al⟩ => ⟨η, S, n, rl, dr, all_mono (all_bind.mp al) (fun d m q p H1 S1 g1 dr1 hp ho => ⟨η, S1, m, rl.grow g1, dr1, all_mono (all_bind.mp q) (fun d2 k q2 v H2 S2 g2 dr2 h2 => by
    obtain ⟨o, ho2, q3⟩ := all_ofO.mp q2
    unfold vMulL at ho2
    split at ho2
    · rename_i z k
      split at ho2
      · rename_i hh
        cases ho2
        cases h2
        have ho' := ho.grow g2
        obtain ⟨n1, n2, n3, n4⟩ := ho'
        rcases n4 with ⟨xs, ds, e, hx, hd⟩ | ⟨_, _, e, _⟩
        · cases e
          refine ⟨p, k, xs, rfl, rfl, hx, by omega, by omega, ?_, fun q hq => ?_⟩
          · have l1 := hd.len
            have : xs.length * k.toNat ≤ 1000 * 1000 := Nat.mul_le_mul (by omega) (by omega)
            exact small6 (by omega)
          · have r2 := (rl.grow g1).grow g2
            refine q3 q _ S2 ((g1.trans g2).trans (Gr.alloc0 r2.sub hq).d) (dr2.sub (Gr.alloc0 r2.sub hq).keep) ?_ (own_new r2 hq (hd.rep k.toNat))
            cases z : H q with
            | none => rfl
            | some o => exact absurd hq ((g1.trans g2).dom q o z)
        · cases e
      · cases ho2
    · cases ho2) fun _ _ t => t.after g1⟩) fun _ _ t => t⟩
theorem ts_nil : PTs X [] (tT c E noIf) := ⟨fun pins s σ H Q I ⟨η, S, n, rl, dr, al⟩ => pts_nil.run pins s σ H Q I (al H S (Gd.refl rl.sub) dr)⟩
theorem ts_one {ft : Env → T Bool} (h : PT X a (tT c E ft)) : PTs X [a] (tT c E ft) := pts_one h
end
end EV
end
section
set_option Elab.async false
set_option linter.all false
set_option maxRecDepth 100000
set_option maxHeartbeats 4000000
/-! The draws of a law, and the law itself. -/
namespace EV
open PySem PySem.Spec PyProof.Rows L2 XK
section
variable {c : Addr} {a l u x : Int}
theorem k1 : ¬ ((Sum.inr ("cells" : Str) : Key) = Sum.inr ("at" : Str)) := by decide +kernel
theorem k2 : ¬ ((Sum.inr ("cells" : Str) : Key) = Sum.inr ("left" : Str)) := by decide +kernel
theorem k3 : ¬ ((Sum.inr ("cells" : Str) : Key) = Sum.inr ("used" : Str)) := by decide +kernel
theorem k4 : ¬ ((Sum.inr ("at" : Str) : Key) = Sum.inr ("left" : Str)) := by decide +kernel
theorem k5 : ¬ ((Sum.inr ("at" : Str) : Key) = Sum.inr ("used" : Str)) := by decide +kernel
theorem k6 : ¬ ((Sum.inr ("left" : Str) : Key) = Sum.inr ("used" : Str)) := by decide +kernel
theorem g_cells : valV (dkv c a l u) (Sum.inr "cells" : Key) = some (.ref c) := valV_pos rfl
theorem g_at : valV (dkv c a l u) (Sum.inr "at" : Key) = some (.int a) := (valV_neg k1).trans (valV_pos rfl)
theorem g_left : valV (dkv c a l u) (Sum.inr "left" : Key) = some (.int l) := (valV_neg k2).trans ((valV_neg k4).trans (valV_pos rfl))
theorem g_used : valV (dkv c a l u) (Sum.inr "used" : Key) = some (.int u) := (valV_neg k3).trans ((valV_neg k5).trans ((valV_neg k6).trans (valV_pos rfl)))
theorem put_map {kvs : List (Key × V)} {k : Key} {v w : V} (h : valV kvs k = some w) : putK kvs k v = kvs.map fun kv => if kv.1 = k then (kv.1, v) else kv := by
  unfold putK
  rw [valV_any, h]
  rfl
theorem p_at : putK (dkv c a l u) (Sum.inr "at" : Key) (.int x) = dkv c x l u := by
  rw [put_map g_at]
  simp only [dkv, List.map_cons, List.map_nil, if_neg k1, if_neg (Ne.symm k4), if_neg (Ne.symm k5), if_true]
theorem p_left : putK (dkv c a l u) (Sum.inr "left" : Key) (.int x) = dkv c a x u := by
  rw [put_map g_left]
  simp only [dkv, List.map_cons, List.map_nil, if_neg k2, if_neg k4, if_neg (Ne.symm k6), if_true]
theorem p_used : putK (dkv c a l u) (Sum.inr "used" : Key) (.int x) = dkv c a l x := by
  rw [put_map g_used]
  simp only [dkv, List.map_cons, List.map_nil, if_neg k3, if_neg k5, if_neg k6, if_true]
end
def Kp (p : Addr) (H H' : Hp) : Prop := ∀ b o, b ≠ p → H b = some o → H' b = some o
theorem Kp.refl (p : Addr) (H : Hp) : Kp p H H := fun _ _ _ h => h
theorem Kp.trans {p : Addr} {H H1 H2 : Hp} (x : Kp p H H1) (y : Kp p H1 H2) : Kp p H H2 := fun b o n h => y b o n (x b o n h)
theorem Kp.upd {p : Addr} {H : Hp} {o : HO} : Kp p H (upd H p o) := fun b u n h => by rw [upd_ne n]; exact h
theorem Kp.new {p q : Addr} {H H1 : Hp} {o : HO} (x : Kp p H H1) (h : H1 q = none) (hp : ∃ u, H1 p = some u) : Kp p H (L2.upd H1 q o) := fun b u n e => by
  rw [upd_ne (ne_of_none (x b u n e) h)]
  exact x b u n e
theorem Dr.ne {H : Hp} {p c : Addr} {m : Nat} (x : Dr H p c m) : c ≠ p := by
  obtain ⟨ns, a, l, u, e1, e2, r⟩ := x
  exact ne_of e2 e1 (by intro z; cases z)
theorem Dr.upd {H : Hp} {p c q : Addr} {o : HO} {m : Nat} (x : Dr H p c m) (n1 : q ≠ p) (n2 : q ≠ c) : Dr (L2.upd H q o) p c m :=
  x.at (fun u h => by rw [upd_ne (Ne.symm n1)]; exact h) (fun u h => by rw [upd_ne (Ne.symm n2)]; exact h)
theorem Dr.new {H : Hp} {p c q : Addr} {o : HO} {m : Nat} (x : Dr H p c m) (n : H q = none) : Dr (L2.upd H q o) p c m := by
  obtain ⟨⟨o1, e1⟩, ⟨o2, e2⟩⟩ := x.there
  exact x.upd (Ne.symm (ne_of_none e1 n)) (Ne.symm (ne_of_none e2 n))
theorem Dr.dict {H : Hp} {p c : Addr} {m : Nat} (x : Dr H p c m) : H p = some (.dK (x.choose_spec.choose_spec.choose_spec.choose |> fun u => dkv c x.choose_spec.choose x.choose_spec.choose_spec.choose u)) := x.choose_spec.choose_spec.choose_spec.choose_spec.1
def spMixed : Sp := fun vs H Q _ => ∃ cell k : Int, vs = [.int cell, .int k] ∧ 0 ≤ k ∧ k < 2 ^ 40 ∧ ∀ v, Q (.int v) H
structure Gb (mg : Str → Option Value) : Prop where
  len : mg "len" = none
def spBegin (K : PySem.W.Frag) : Sp := fun vs H Q _ => ∃ (a : Addr) (ns : List Int), vs = [.ref a] ∧ SqL K H a (ns.map V.int) ∧ ns.length ≤ 63 ∧ ∀ p c H', H p = none → H c = none → Dr H' p c 0 → (∀ b o, H b = some o → H' b = some o) → Q (.ref p) H'
theorem merge_dkv {c : Addr} {a l u : Int} : mergeK [] (dkv c a l u) = dkv c a l u := merge_nil (by
  show [(Sum.inr "cells" : Key), Sum.inr "at", Sum.inr "left", Sum.inr "used"].Nodup
  decide +kernel)
def spNext : Sp := fun vs H Q _ => ∃ (p cc : Addr) (b : Int) (m : Nat), vs = [.ref p, .int b] ∧ Dr H p cc m ∧ m ≤ 1000000000 ∧ 0 < b ∧ b < 1073741824 ∧ ∀ v H', 0 ≤ v → v < b → Dr H' p cc (m + 1) → Kp p H H' → Q (.int v) H'

theorem FnG.weak {P : Program} {w : World} {K : PySem.W.Frag} {mg : Str → Option Value} {base : Heap} {k : Nat} {f : Addr} {fd : FuncData} {ps : List Str} {sp sp' : Sp} (F : FnG P w K mg base k f fd ps sp) (h : ∀ vs H Q E, sp' vs H Q E → sp vs H Q E) : FnG P w K mg base k f fd ps sp' :=
  ⟨fun vs H Q E x => F.len vs H Q E (h vs H Q E x), fun A fr s H ar us vs Q E c e b r x => F.go A fr s H ar us vs Q E c e b r (h vs H Q E x)⟩
theorem tab_kp {H H' : Hp} {p cc : Addr} {j : Nat} (hD : Dr H p cc j) (kp : Kp p H H') : ∀ P q, LamX.TabS H P q → LamX.TabS H' P q := fun P q t => by
  obtain ⟨ns, a, l, u, e, _⟩ := hD
  obtain ⟨ps, e1, e2, e3⟩ := t
  refine ⟨ps, kp _ _ (fun z => ?_) e1, e2, fun pos cv hc => ?_⟩
  · rw [z, e] at e1
    cases e1
  · obtain ⟨c, k1, k2⟩ := e3 pos cv hc
    refine ⟨c, k1, kp _ _ (fun z => ?_) k2⟩
    rw [z, e] at k2
    cases k2
/-- a draw below b -/
def nextF : List Val → T Val := fun ds => match ds with | [.int b] => .draw b fun v => .ret (.int v) | _ => .bad
section
variable {P : Program} {w : World} {K : PySem.W.Frag} {mg : Str → Option Value} {base : Heap} {k : Nat} {f : Addr} {fd : FuncData} {cl : Str → Option Addr} {ps : List Str}
theorem next_d (F : FnG P w K mg base k f fd ps spNext) : FnG P w K mg base k f fd ps (spD K cl tb nextF) := FnG.weak F fun vs H Q E ⟨p, cc, S, vs', ds, n, e, hs, hnt, htt, hp, hc, hd, dr, al⟩ => by
  unfold nextF at al
  split at al
  · rename_i b
    obtain ⟨m, e2, b0, b1, go⟩ := al
    obtain ⟨j, hj, hD⟩ := dr p cc rfl
    cases hd with
    | cons h1 r =>
      cases h1
      cases r
      refine ⟨p, cc, b, j, e, hD, by omega, b0, b1, fun v H' v0 v1 hD' kp => ?_⟩
      refine go v v0 v1 (.int v) H' S ⟨fun a o hn _ ha => kp a o (hn p cc rfl) ha, Sub.refl S, fun a o ha => ?_, fun a o ha => .inl ha, fun a o ha => ?_, fun _ _ t => tab_kp hD kp _ _ t, fun z => z⟩ (fun q c' e' => ?_) (.int v)
      · by_cases z : a = p
        · rw [z, hp] at ha
          cases ha
        · exact kp a o z (hs a o ha)
      · by_cases z : a = p
        · obtain ⟨⟨o', h'⟩, _⟩ := hD'.there
          rw [z, h']
          exact fun z => by cases z
        · rw [kp a o z ha]
          exact fun z => by cases z
      · cases e'
        exact ⟨j + 1, by omega, hD'⟩
  · exact al.elim
theorem pss_ex {X : Cx} {ι : Type} {st : List Stmt} {t : ι → TS} (h : ∀ i, PSs X st (t i)) : PSs X st (fun D σ H => ∃ i, t i D σ H) := ⟨fun pins s σ H D I ⟨i, q⟩ => (h i).run pins s σ H D I q⟩
/-- all but p and the tables of code objects -/
def shr (H : Hp) (p : Addr) : Hp := fun b => if b = p then none else match H b with | some (.tbl _) => none | o => o
theorem shr_get {H : Hp} {p b : Addr} {o : HO} (e : shr H p b = some o) : H b = some o ∧ ∀ ps, o ≠ .tbl ps := by
  unfold shr at e
  split at e
  · cases e
  · split at e
    · cases e
    · rename_i h
      exact ⟨e, fun ps z => h ps (by rw [e, z])⟩
theorem shr_of {H : Hp} {p b : Addr} {o : HO} (n : b ≠ p) (h : H b = some o) (t : ∀ ps, o ≠ .tbl ps) : shr H p b = some o := by
  unfold shr
  rw [if_neg n, h]
  cases o <;> first | rfl | exact absurd rfl (t _)
theorem shr_nt (H : Hp) (p : Addr) : NoT (shr H p) := fun a ps e => (shr_get e).2 ps rfl
def spLaw (K : PySem.W.Frag) (tb : List (Addr × Str)) : Sp := fun vs H Q _ => ∃ (a : Addr) (ns : List Int), vs = [.ref a] ∧ SqL K H a (ns.map V.int) ∧ ns.length ≤ 63 ∧ LamX.Tabs tb H ∧ ∀ H', Q (.bl true) H'
def envL (n : Nat) (ns : List Int) : Env := some (.lst (ns.map Val.int)) :: List.replicate (n - 1) none
theorem ints_dv {S : Hp} : ∀ ns : List Int, DVs K cl S (ns.map V.int) (ns.map Val.int)
  | [] => .nil
  | n :: ns => .cons (.int n) (ints_dv ns)
/-- the law: its first row makes the draws -/
theorem law_okC {N : List Str} {st : Stmt} {rest : List Stmt} {fB : Addr} {fdB : FuncData} {dsl : Nat} {m : Sm} {n : Nat} {p1 p2 p3 p4 p5 : Pos} (ow : List Nat) (F : Fun K "law" "law" st f fd) (S : FnScope N ["script"] (defScope st)) (ho : ∀ i ∈ ow, 1 ≤ i) (hdl : 1 ≤ dsl) (hdN : N[dsl]? = some ("draw" : Str)) (hdx : Loc (defScope st) "draw") (hdo : dsl ∉ ow)
    (hdf : ∀ (cdv : Value) (A : Around) (fr : List PySem.Env) (s : Shared) (H : Hp) (E : XK), (cxOf (L2.CX P w) P w K mg base N "law" (defScope st) f cdv A fr s H E).fn "draw" = true ∨ (cxOf (L2.CX P w) P w K mg base N "law" (defScope st) f cdv A fr s H E).env.scope.names.lookup ("draw" : Str) = some NameKind.local)
    (hsv : ∀ (cdv : Value) (A : Around) (fr : List PySem.Env) (s : Shared) (H : Hp) (E : XK), PE (cxOf (L2.CX P w) P w K mg base N "law" (defScope st) f cdv A fr s H E) (.Name "script" p3) (tVar 0))
    (hb : defBody st = .Assign [.Name "draw" p1] (.Call (.Name "_law_begin" p2) [.Name "script" p3] [] p4) p5 :: rest) (NB : FnG P w K mg base 1 fB fdB ["script"] (spBegin K)) (mB : mg "_law_begin" = some (.ref fB)) (kB : PySem.W.keepIn K (.ref fB) = true) (bB : Binds K fdB ["script"] [])
    (hgB : ∀ (cdv : Value) (A : Around) (fr : List PySem.Env) (s : Shared) (H : Hp) (E : XK), Gl (cxOf (L2.CX P w) P w K mg base N "law" (defScope st) f cdv A fr s H E) "_law_begin")
    (hst : ∀ (env : PySem.Env), starEach [PySem.Expr.Name "script" p3] env = (false, eval (.Name "script" p3) env) :: starEach [] env) (hpl : ∀ (env : PySem.Env), (backTo p4 (starEach [] env)).any (·.1) = false)
    (hsw : ∀ (env : PySem.Env), swapsWith (.Call (.Name "_law_begin" p2) [.Name "script" p3] [] p4) (some (.Name "draw" p1)) p5.line env = pure false)
    (body : ∀ (cdv : Value) (A : Around) (fr : List PySem.Env) (s : Shared) (H H0 S0 : Hp) (p cc : Addr) (E : XK), fd.code = cdv → Calm k (A.deeper (envOfC "law" (defScope st) s.heap.objs.size f cdv)) → PSs (cxOf (L2.CX P w) P w K mg base N "law" (defScope st) f cdv A fr s H E) rest (tS ⟨K, cl, ow, some (p, cc), H0, S0, dsl, tb⟩ E00 m))
    (hk : 1 ≤ k) (hn : n ≤ 999999000) (hm : ∀ ns : List Int, ns.length ≤ 63 → All (m (envL N.length ns)) n (fun o _ => o = .rt (.bl true)) (fun _ _ => False)) :
    FnG P w K mg base (k + 1) f fd ["script"] (spLaw K tb) := by
  refine def_okC F S (fun vs H Q E h => ?_) (fun cdv A fr s H vs Q E hcd c h => ?_)
  · obtain ⟨_, _, rfl, _⟩ := h
    rfl
  · obtain ⟨a, ns, rfl, hs, hl, htt, go⟩ := h
    have hNl : dsl < N.length := (List.getElem?_eq_some_iff.mp hdN).1
    rw [hb]
    refine ⟨_, pss_cons (ps_set (i := dsl) S.nd hdN hdx (pe_g NB (c.mono hk) (hgB cdv A fr s H E) mB kB bB quiets (pa_cons (hsv cdv A fr s H E) pa_nil (hst _)) (by decide) (hst _) (hpl _)) (hsw _) (hdf cdv A fr s H E)) (pss_ex fun i : Hp × Hp × Addr × Addr => body cdv A fr s H i.1 i.2.1 i.2.2.1 i.2.2.2 E hcd c), ?_⟩
    have e0 : (L2.start N [.ref a])[0]? = some (some (V.ref a)) := rfl
    refine ⟨V.ref a, e0, ?_⟩
    refine ⟨a, ns, rfl, hs, hl, fun p cc H1 hp hcc hD kp => ?_⟩
    refine ⟨(H1, shr H1 p, p, cc), envL N.length ns, shr H1 p, n, ?_, fun q c' e => ?_, ?_⟩
    · have hs1 : SqL K H1 a (ns.map V.int) := Same.seq kp hs
      have hne : a ≠ p ∨ SqL K (shr H1 p) a (ns.map V.int) := by
        rcases hs with (h | ⟨o, h⟩) | h
        · exact .inl (ne_of_none h hp)
        · exact .inl (ne_of_none h hp)
        · exact .inr (.inr h)
      have hs2 : SqL K (shr H1 p) a (ns.map V.int) := by
        rcases hne with z | z
        · refine Same.seq (H := shr H1 p) (fun b o e => e) ?_
          rcases hs1 with (h | ⟨o, h⟩) | h
          · exact .inl (.inl (shr_of z h (by intro _ w; cases w)))
          · exact .inl (.inr ⟨o, shr_of z h (by intro _ w; cases w)⟩)
          · exact .inr h
        · exact z
      have hz : ∀ i d, (envL N.length ns)[i]? = some (some d) → i = 0 ∧ d = .lst (ns.map Val.int) := fun i d e => by
        cases i with
        | zero => cases e; exact ⟨rfl, rfl⟩
        | succ j =>
          rw [envL, List.getElem?_cons_succ, List.getElem?_replicate] at e
          split at e
          · cases e
          · cases e
      have hss : Sub (shr H1 p) H1 := fun b o e => (shr_get e).1
      refine ⟨Gd.refl hss, ?_, fun i d e n => ?_, fun i d e n => ?_, fun i j d e b hi hj hij h1 => ?_, fun q c' e => ?_, shr_nt H1 p, htt.ext kp⟩
      · simp [envL, L2.start]
      · obtain ⟨rfl, rfl⟩ := hz i d e
        refine ⟨.ref a, ?_, .lst hs2 (ints_dv ns)⟩
        rw [List.getElem?_set_ne (by omega)]
        rfl
      · obtain ⟨rfl, rfl⟩ := hz i d e
        have := ho 0 n
        omega
      · obtain ⟨rfl, _⟩ := hz i d h1
        have := ho 0 hi
        omega
      · cases e
        obtain ⟨⟨o1, e1⟩, o2, e2⟩ := hD.there
        refine ⟨if_pos rfl, (show H1 p ≠ none by rw [e1]; exact (fun z => by cases z)), (show H1 cc ≠ none by rw [e2]; exact (fun z => by cases z)), hD.ne, ?_⟩
        have hlen : dsl < (L2.start N [.ref a]).length := by
          simp [L2.start]
          omega
        show ((L2.start N [.ref a]).set dsl (some (.ref p)))[dsl]? = _
        rw [List.getElem?_set_self hlen]
    · cases e
      exact ⟨0, by omega, hD⟩
    · exact all_mono (hm ns hl) (fun o j q => by
        subst q
        exact fun v H' S' g d' h => by
          cases h
          exact go H') fun e j q => q.elim
theorem law_ok {N : List Str} {st : Stmt} {rest : List Stmt} {fB : Addr} {fdB : FuncData} {dsl : Nat} {m : Sm} {n : Nat} {p1 p2 p3 p4 p5 : Pos} (ow : List Nat) (F : Fun K "law" "law" st f fd) (S : FnScope N ["script"] (defScope st)) (ho : ∀ i ∈ ow, 1 ≤ i) (hdl : 1 ≤ dsl) (hdN : N[dsl]? = some ("draw" : Str)) (hdx : Loc (defScope st) "draw") (hdo : dsl ∉ ow)
    (hdf : ∀ (cdv : Value) (A : Around) (fr : List PySem.Env) (s : Shared) (H : Hp) (E : XK), (cxOf (L2.CX P w) P w K mg base N "law" (defScope st) f cdv A fr s H E).fn "draw" = true ∨ (cxOf (L2.CX P w) P w K mg base N "law" (defScope st) f cdv A fr s H E).env.scope.names.lookup ("draw" : Str) = some NameKind.local)
    (hsv : ∀ (cdv : Value) (A : Around) (fr : List PySem.Env) (s : Shared) (H : Hp) (E : XK), PE (cxOf (L2.CX P w) P w K mg base N "law" (defScope st) f cdv A fr s H E) (.Name "script" p3) (tVar 0))
    (hb : defBody st = .Assign [.Name "draw" p1] (.Call (.Name "_law_begin" p2) [.Name "script" p3] [] p4) p5 :: rest) (NB : FnG P w K mg base 1 fB fdB ["script"] (spBegin K)) (mB : mg "_law_begin" = some (.ref fB)) (kB : PySem.W.keepIn K (.ref fB) = true) (bB : Binds K fdB ["script"] [])
    (hgB : ∀ (cdv : Value) (A : Around) (fr : List PySem.Env) (s : Shared) (H : Hp) (E : XK), Gl (cxOf (L2.CX P w) P w K mg base N "law" (defScope st) f cdv A fr s H E) "_law_begin")
    (hst : ∀ (env : PySem.Env), starEach [PySem.Expr.Name "script" p3] env = (false, eval (.Name "script" p3) env) :: starEach [] env) (hpl : ∀ (env : PySem.Env), (backTo p4 (starEach [] env)).any (·.1) = false)
    (hsw : ∀ (env : PySem.Env), swapsWith (.Call (.Name "_law_begin" p2) [.Name "script" p3] [] p4) (some (.Name "draw" p1)) p5.line env = pure false)
    (body : ∀ (cdv : Value) (A : Around) (fr : List PySem.Env) (s : Shared) (H H0 S0 : Hp) (p cc : Addr) (E : XK), Calm k (A.deeper (envOfC "law" (defScope st) s.heap.objs.size f cdv)) → PSs (cxOf (L2.CX P w) P w K mg base N "law" (defScope st) f cdv A fr s H E) rest (tS ⟨K, cl, ow, some (p, cc), H0, S0, dsl, tb⟩ E00 m))
    (hk : 1 ≤ k) (hn : n ≤ 999999000) (hm : ∀ ns : List Int, ns.length ≤ 63 → All (m (envL N.length ns)) n (fun o _ => o = .rt (.bl true)) (fun _ _ => False)) :
    FnG P w K mg base (k + 1) f fd ["script"] (spLaw K tb) :=
  law_okC ow F S ho hdl hdN hdx hdo hdf hsv hb NB mB kB bB hgB hst hpl hsw (fun cdv A fr s H H0 S0 p cc E _ cm => body cdv A fr s H H0 S0 p cc E cm) hk hn hm
end
end EV
end
section
set_option Elab.async false
set_option linter.all false
set_option maxRecDepth 100000
set_option maxHeartbeats 4000000
/-! Short names for the programs, and more rules. -/
namespace EV
open PySem PySem.Spec PyProof.Rows L2 XK
abbrev vr (i : Nat) : Ev := fun η => ofO (η[i]?.join)
abbrev kI (j : Int) : Ev := fun _ => .ret (.int j)
abbrev kS (z : Str) : Ev := fun _ => .ret (.str z)
abbrev kB (b : Bool) : Ev := fun _ => .ret (.bl b)
abbrev kN : Ev := fun _ => .ret .non
theorem nei {i j : Nat} (h : (i == j) = false) : i ≠ j := by
  intro z
  rw [z] at h
  simp at h
theorem look_mem {α : Type} {n : Str} {C : α} : ∀ {l : List (Str × α)}, l.lookup n = some C → (n, C) ∈ l
  | [], h => by cases h
  | (k, D) :: r, h => by
    rw [List.lookup_cons] at h
    split at h
    · rename_i e
      cases h
      rw [eq_of_beq e]
      exact List.mem_cons_self
    · exact List.mem_cons_of_mem _ (look_mem h)
section
variable {X : Cx} {c : Ct} {E : L2.St → XK} {a b e : PySem.Expr} {f g fa fb : Ev} {fs : EvL} {pos p p2 : Pos} {es : List PySem.Expr} {i : Nat} {x : Str}
def eDic0 : Ev := fun _ => .ret (.dic [])
theorem d_dic0 : PE X (.Dict [] [] pos) (tN c E eDic0) :=
  pe_imp pe_dnewK fun σ H Q ⟨η, S, n, rl, dr, al⟩ => fun p hp => al p _ S (Gr.alloc0 rl.sub hp).d (dr.sub (Gr.alloc0 rl.sub hp).keep) hp (own_newD rl hp .nil)
def okPow (i j : Int) : Bool := decide (0 ≤ i) && decide (i ≤ 64) && decide (0 ≤ j) && decide (j ≤ 64)
end
/-! ### defs with keyword-only defaults -/
def DnK (K : PySem.W.Frag) (x : Str) (st : Stmt) (kws : List (Str × V)) : Prop := ∃ (f : Addr) (fd : FuncData), PySem.W.nsIn K mainGlobals x = some (some (.ref f)) ∧ FunD K x x (defArgs st) (defBody st) (defScope st) [] kws f fd
section
variable {K : PySem.W.Frag} {x q : Str} {st : Stmt}
theorem DnK.mk1 {f D : Addr} {y : Str} {v : V} {u : Value} {oc : Value} {od an : Option Addr} {osl : Array (Option Value)} {doc pm cdv ct : Value} (a : PySem.W.nsIn K mainGlobals x = some (some (.ref f)))
    (l : K.lookup f = some ⟨oc, od, .func (PySem.W.fnOf x x (defArgs st) (defBody st) (defScope st) .none (.ref D) doc pm an cdv ct), osl⟩) (c : PySem.W.codeIn K cdv x = true) (k : PySem.W.keepIn K (.ref f) = true)
    (yy : PySem.W.nsIn K D y = some (some u)) (r : RelV v u) : DnK K x st [(y, v)] := ⟨_, _, a, ⟨⟨_, _, _, _, _, _, _, _, _, _, rfl, l, c, .inl ⟨rfl, rfl⟩, .inr ⟨D, rfl, fun p hp => by
      rw [List.mem_singleton] at hp
      subst hp
      exact ⟨u, yy, r⟩⟩⟩, k⟩⟩
theorem fun_of {kws : List (Str × V)} {f : Addr} {fd : FuncData} (F : FunD K x q (defArgs st) (defBody st) (defScope st) [] kws f fd) : Fun K x q st f fd := by
  obtain ⟨oc, od, dV, kV, doc, pm, an, cdv, ct, osl, rfl, lk, hcd, hD, hK⟩ := F.ex
  rcases hD with ⟨_, rfl⟩ | ⟨e, _⟩
  · exact ⟨⟨oc, od, kV, doc, pm, an, cdv, ct, osl, rfl, lk, hcd⟩, F.kp⟩
  · exact absurd rfl e
end
end EV
end
section
set_option Elab.async false
set_option linter.all false
set_option maxRecDepth 100000
set_option maxHeartbeats 4000000
/-! Own exception classes with one field over any built-in base. -/
namespace EV
open PySem PySem.Spec PyProof.Rows L2 XK
open PySem.HandSPX PySem.Builtin PySem.Builtin.ObjectAttr
/-- own classes before a built-in mro -/
abbrev overL (rs : List Addr) (bt : List Value) : List Value := rs.map Value.ref ++ bt
theorem over_pass {bt : List Value} (h : ∀ me : Value, refuseLoop me "__setattr__" bt = pure ()) (me : Value) : ∀ rs : List Addr, refuseLoop me "__setattr__" (overL rs bt) = pure ()
  | [] => h me
  | r :: rs => by
    show refuseLoop me "__setattr__" (.ref r :: overL rs bt) = pure ()
    rw [refuseLoop_ref]
    exact over_pass h me rs
theorem over_has {bt : List Value} (Y : String) : ∀ rs : List Addr, (overL rs bt).contains (.type Y) = bt.contains (.type Y)
  | [] => rfl
  | r :: rs => by
    show (Value.ref r :: overL rs bt).contains (.type Y) = _
    rw [List.contains_cons, over_has Y rs]
    rfl
theorem over_some {bt : List Value} (h : bt ≠ []) : ∀ rs : List Addr, (overL rs bt).isEmpty = false
  | [] => by cases bt with | nil => exact absurd rfl h | cons _ _ => rfl
  | _ :: _ => rfl
/-- what is known of a built-in base -/
structure Bas (B nw ini : String) (bt : List Value) : Prop where
  ex : ExcBaseFacts B nw ini bt
  st : ∀ me : Value, refuseLoop me "__setattr__" bt = pure ()
  ob : bt.contains (.type "object") = true
  ne : bt ≠ []
theorem bas_value : ∃ i, Bas "ValueError" "ValueError.__new__" i [.type "ValueError", .type "Exception", .type "BaseException", .type "object"] := ⟨_, F.excBase_ValueError, F.store_ValueError.passes, by decide +kernel, by simp⟩
theorem bas_runtime : ∃ i, Bas "RuntimeError" "RuntimeError.__new__" i [.type "RuntimeError", .type "Exception", .type "BaseException", .type "object"] := ⟨_, F.excBase_RuntimeError, F.store_RuntimeError.passes, by decide +kernel, by simp⟩
theorem bas_lookup : ∃ i, Bas "LookupError" "LookupError.__new__" i [.type "LookupError", .type "Exception", .type "BaseException", .type "object"] := ⟨_, F.excBase_LookupError, F.store_LookupError.passes, by decide +kernel, by simp⟩
/-- an own class over such a base -/
structure Og (K : PySem.W.Frag) (C : Addr) : Prop where
  cls : ∃ B nw ini bt, Bas B nw ini bt ∧ ∃ nm q N bs rs sn sub ab col dd m0 m1 m2 m3 m5, K.lookup C = some (excClassObj nm q C N bs (overL rs bt) true sn sub ab col dd m0 m1 m2 m3 m5 nw)
  sa : PySem.W.findIn K (.ref C) "__setattr__" = some (some (.builtin "object.__setattr__"))
  exC : PySem.W.subIn K (.ref C) (.type "BaseException") = some true
  tyC : PySem.W.typeIn K (.ref C) = some (.type "type")
  kC : PySem.W.keepIn K (.ref C) = true
section
variable {prog : Program} {w : World} {A : Around} {R : Result → Shared → Prop} {hp : Heap} {gs : Array GenState} {dn : Drawn} {tn : Nat} {os : OsState}
/-- object.__setattr__ on a new exception of such a class -/
theorem own_store {K : W.Frag} {fn : Str} {tk : Tok} {u : Value} {e C : Addr} {fv : Array Value} {cl : ClassData} {rs : List Addr} {bt : List Value} (kin : K.In hp) (he : hp.get? e = some { cls := .ref C, data := .fields fv }) (hc : W.clsIn K C = some cl)
    (hm : cl.mro = overL rs bt) (hst : ∀ me : Value, refuseLoop me "__setattr__" bt = pure ()) (hob : bt.contains (.type "object") = true) (hne : bt ≠ []) (hd : cl.hasDict = true) (hf : W.findIn K (.ref C) fn = some none)
    (go : ∀ h2 tk2 dx, (∀ b o, b ≠ e → hp.get? b = some o → h2.get? b = some o) → hp.objs.size ≤ dx → dx ≠ e → h2.get? e = some { cls := .ref C, dict := some dx, data := .fields fv } → h2.Ns1 dx (fun y => if y = fn then some u else none) → R (.ok (.ret .none)) ⟨h2, gs, dn, tk2, os⟩) :
    codeAny (model prog w) A (.call (.builtin "object.__setattr__") ⟨[.ref e, .str fn tk, u], []⟩) R ⟨hp, gs, dn, tn, os⟩ := by
  have here : W.InstAt hp e { cls := .ref C, data := .fields fv } C none := ⟨he, rfl, rfl, trivial⟩
  have st := F.store_object
  have far : e ≠ hp.objs.size := Nat.ne_of_lt (Heap.lt_size he)
  have isO : cl.mro.contains (.type "object") = true := by rw [hm, over_has, hob]
  have isE : cl.mro.isEmpty = false := by rw [hm]; exact over_some hne rs
  have inst : W.Looks (model prog w) hp (isInstance (.ref e) (.type "object")) true := here.type.andThen (W.looks_mroIn kin (by
    unfold W.mroIn
    rw [hc, Option.bind_some, if_neg (by rw [isE]; decide), isO]))
  have lm : W.Looks (model prog w) hp (mroOf (.ref C)) cl.mro := (W.looks_clsIn kin hc).andThen .now
  have ls : W.Looks (model prog w) hp (storeTaker? none) none := .now
  have lc : W.Looks (model prog w) hp (classData C) cl := W.looks_clsIn kin hc
  refine codeAny_call_builtin st.slot.plain st.entry (@W.check_slot (model prog w) _ _ ⟨hp, gs, dn, tn, os⟩ "object.__setattr__" "object" "__setattr__" (.ref e) [.str fn tk, u] [] _ st.kind st.split inst (st.args (.ref e) (.str fn tk) u) ?_)
  rw [W.osa_eq, refuse_eq]
  refine wpAny_bind (wpAny_bind (here.type.at (wpAny_bind (lm.at ?_))))
  rw [hm, over_pass hst]
  refine wpAny_pure (wpAny_bind (here.type.at (wpAny_bind ((W.looks_findIn kin hf).at (wpAny_bind (ls.at ?_))))))
  show wpAny _ _ (storeInOwnDict (.ref e) (.ref C) (.str fn tk) fn u false) _ _ _
  obtain ⟨c1, c2, c3, c4, c5, c6, c7, c8, c9, c10, c11⟩ := cl
  dsimp only at hd
  subst hd
  unfold storeInOwnDict ownDictForStores
  repeat (first | with_reducible refine store_in_new ?_ ?_ | with_reducible refine wpAny_loadPart_at he ?_ | with_reducible refine lc.at ?_ | wp_step)
  · exact ⟨_, #[], _, (Heap.get?_update_ne _ _ _ _ far.symm).trans (Heap.get?_push_at rfl rfl), rfl, fun z hz => absurd hz (by simp), fun _ => rfl⟩
  · intro h2 tk2 ns same
    have he2 : (hp.push { cls := .type "dict", data := .dict #[] }).get? e = some { cls := .ref C, data := .fields fv } := Heap.get?_push_of_some _ he
    refine go h2 tk2 hp.objs.size (fun b o nb hb => ?_) (Nat.le_refl _) far.symm ?_ ns
    · rw [same.2 b (Nat.ne_of_lt (Heap.lt_size hb)), Heap.get?_update_ne _ _ _ _ nb]
      exact Heap.get?_push_of_some _ hb
    · rw [same.2 e far]
      exact Heap.get?_update_self _ he2 rfl
end
end EV
end
section
set_option Elab.async false
set_option linter.all false
set_option maxRecDepth 100000
set_option maxHeartbeats 4000000
namespace EV
open PySem PySem.Spec PyProof.Rows L2 XK
/-- what the top has written of such a class with one field -/
structure Eg (K : PySem.W.Frag) (mg : Str → Option Value) (x : Str) (C fI : Addr) (f : Str) : Prop where
  gC : mg x = some (.ref C)
  og : Og K C
  iC : PySem.W.findIn K (.ref C) "__init__" = some (some (.ref fI))
  tI : PySem.W.typeIn K (.ref fI) = some (.type "function")
  nf : PySem.W.findIn K (.ref C) f = some none
  xf : XfC K C
  ec : ExcC K C
section
variable {X : Cx} {pins : List (Addr × Obj)} {σ : L2.St} {H : Hp} {s : Shared} {a C : Addr} {f : Str} {y : V} {u : Value} {Q : Unit → Shared → Prop} {E : Value → Shared → Prop} {A : Around}
/-- self.f = y on it -/
theorem own_put (T : Og X.K C) (I : Inv X pins σ H s) (ea : H a = some (exo a C none)) (nf : PySem.W.findIn X.K (.ref C) f = some none) (ry : RelV y u)
    (go : ∀ dx s2, H dx = none → dx ≠ a → Inv X pins σ (upd (upd H dx (exd dx [(f, y)])) a (exo a C (some dx))) s2 → Q () s2) : wpAny (model X.prog X.w) A (setAttr (.ref a) f u) Q E s := by
  obtain ⟨B, nw, ini, bt, bas, c1, c2, N, c3, rs, c5, c6, c7, c8, c9, m0, m1, m2, m3, m5, hC⟩ := T.cls
  obtain ⟨t1, ho⟩ := exo_at I.hok ea
  obtain ⟨hp, gs, dn, tn, os⟩ := s
  refine PySem.W.set_plain I.kIn (ox := { cls := .ref C, dict := none, data := .fields #[.ref t1, .none, .none, .none, .bool false, .none] }) (od := none) ⟨ho, rfl, rfl, trivial⟩ T.sa ?_
  refine own_store (cl := { name := c1, bases := c3, mro := .ref C :: overL rs bt, ns := N, qualname := c2, hasDict := true, slotNames := c5, subclasses := c6, abstract := c7, collection := c8, hasDel := false }) (rs := C :: rs) (bt := bt) I.kIn ho
    (by unfold PySem.W.clsIn; rw [hC] <;> rfl) rfl bas.st bas.ob bas.ne rfl nf (fun h2 tk2 dx k big dne hx hn => ?_)
  have hnd : H dx = none := I.hok.fresh big
  have nd : ∀ {b : Addr} {o : Obj}, hp.get? b = some o → b ≠ dx := fun {b o} q => Nat.ne_of_lt (Nat.lt_of_lt_of_le (Heap.lt_size q) big)
  have na : ∀ {b : Addr}, H b = none → b ≠ a := fun {b} n z => by rw [z, ea] at n; cases n
  have un : Un X.fs [] H (upd (upd H dx (exd dx [(f, y)])) a (exo a C (some dx))) hp h2 :=
    { keep := fun b o q n _ _ => k b o (na n) q
      slot := fun b o q n _ _ => ⟨o.slots, k b o (na n) q⟩
      free := fun b o q n _ => (upd_ne (na n)).trans ((upd_ne (nd q)).trans n)
      there := fun b o q _ => by
        by_cases z : b = a
        · rw [z]; exact ⟨_, hx⟩
        · exact ⟨o, k b o z q⟩
      tups := fun b xs q => (upd_ne (at_ne ea q exo_tup)).trans ((upd_ne (ne_of_none q hnd)).trans q)
      frzs := fun b o v q => (upd_ne (at_ne ea q exo_frz)).trans ((upd_ne (ne_of_none q hnd)).trans q)
      tbls := fun b ps q => ⟨#[], by rw [upd_ne (at_ne ea q exo_tbl), upd_ne (ne_of_none q hnd), q]; simp⟩ }
  refine go dx _ hnd dne (I.un (t' := tk2) un fun b o q => ?_)
  by_cases z : b = a
  · subst z
    rw [upd_same] at q
    cases q
    exact exo_ok hx
  rw [upd_ne z] at q
  by_cases z2 : b = dx
  · subst z2
    rw [upd_same] at q
    cases q
    exact exd_ok hn (relO_put (fs := []) ry fun g => True.intro)
  rw [upd_ne z2] at q
  refine (I.hok b o q).stay (fun c v hc z => k c v ?_ z) (fun c hc => (upd_ne (at_ne ea hc exo_own)).trans ((upd_ne (ne_of_none hc hnd)).trans hc)) (fun c xs hc => (upd_ne (at_ne ea hc exo_tup)).trans ((upd_ne (ne_of_none hc hnd)).trans hc))
  rcases hc with hc | hc
  · subst hc; assumption
  · exact at_ne ea hc exo_own
end
def tPut1 (K : PySem.W.Frag) (f : Str) (to te : TE) : TS := fun D σ H => te σ H fun y H1 => to σ H1 fun x H2 => ∃ a C : Addr, x = .ref a ∧ Og K C ∧ PySem.W.findIn K (.ref C) f = some none ∧ H2 a = some (exo a C none) ∧ ∀ dx, H2 dx = none → dx ≠ a → D.nx σ (upd (upd H2 dx (exd dx [(f, y)])) a (exo a C (some dx)))
theorem ps_put1 {X : Cx} {o e : PySem.Expr} {to te : TE} {f : Str} {p' pos : Pos} (ho : PE X o to) (he : PE X e te) (hs : swapsWith e (some (.Attribute o f p')) pos.line X.env = pure false := by rfl) : PS X (.Assign [.Attribute o f p'] e pos) (tPut1 X.K f to te) := by
  refine ⟨fun pins s σ H D I h => plainObj_wpAny_Assign_Attribute (thn (he.run pins s σ H _ I h) fun v s1 ⟨y, H1, I1, r1, q1⟩ => thn (ho.run pins s1 σ H1 _ I1 q1) fun u s2 ⟨x, H2, I2, r2, a, C, ex, T, nf, ea, q⟩ => ?_) hs⟩
  subst ex
  obtain rfl : u = Value.ref a := r2
  exact own_put T I2 ea nf r1 fun dx s3 n ne J => ⟨σ, _, J, q dx n ne⟩
section
variable {P : Program} {w : World} {K : PySem.W.Frag} {mg : Str → Option Value} {base : Heap} {x f : Str} {C fI : Addr} {fd : FuncData} {st : Stmt} {q : Str}
theorem ini_og (T : Eg K mg x C fI f) (F : Fun K "__init__" q st fI fd) (S : FnScope ["self", f] ["self", f] (defScope st)) {p1 p2 p3 p4 : Pos} (hb : defBody st = [.Assign [.Attribute (.Name "self" p1) f p2] (.Name f p3) p4])
    (v0 : Vis (defScope st) "self") (v1 : Vis (defScope st) f) (hd : (f == ("__debug__" : Str)) = false) (hcd : (f == ("__classdict__" : Str)) = false) : FnOk P w K mg base (L2.CX P w) 1 fI fd ["self", f] (spIni C f) := by
  refine F.okX S (fun vs H Q E ⟨a, v, e, _⟩ => by rw [e]; rfl) (fun cdv A outer s H vs Q E hr ⟨a, v, e, ha, go⟩ => ?_)
  subst e
  rw [hb]
  exact ⟨_, pss_one (ps_put1 (pe_var (i := 0) rfl v0 (by decide) (by decide)) (pe_var (i := 1) rfl v1 hd hcd)), v, rfl, .ref a, rfl, a, C, rfl, T.og, T.nf, ha, fun dx hn hne => go dx hn hne⟩
end
section
variable {X : Cx} {x f : Str} {C fI : Addr} {fd : FuncData} {W : WX} {e : PySem.Expr} {te : TE} {p pos pos2 : Pos}
/-- x(e) makes one -/
theorem mk_og (T : Eg X.K X.mg x C fI f) (F1 : FnOk X.prog X.w X.K X.mg X.base (L2.CX X.prog X.w) 1 fI fd ["self", f] (spIni C f)) (hb : Binds X.K fd ["self", f] []) (hr : Room 2 X.A) (he : PE X e te) (hg : Gl X x)
    (hdb : (x == ("__debug__" : Str)) = false := by decide) (hst : starEach [e] X.env = (false, eval e X.env) :: starEach [] X.env := by rfl) (hpl : (backTo pos (starEach [] X.env)).any (·.1) = false := by rfl) :
    PMk X (.Call (.Name x p) [e] [] pos) (fun σ H Q => te σ H fun v H1 => ∀ d, H1 d = none → Q (.ref C) (some d) (upd H1 d (.xd [(f, v)]))) := by
  intro pins s σ H Q I h
  obtain ⟨B, nw, ini, bt, bas, c1, c2, N, c3, rs, c5, c6, c7, c8, c9, m0, m1, m2, m3, m5, hC⟩ := T.og.cls
  refine wpAny_Call_Name_kw (ld_glob I hg T.gC ?_ hdb)
  have hargs := (pa_cons (pe_up he) pa_nil hst).run pos pins s σ H (fun vs H1 => ∃ v, vs = [v] ∧ ∀ d, H1 d = none → Q (.ref C) (some d) (upd H1 d (.xd [(f, v)]))) I ⟨_, h, fun v H' k => ⟨v, rfl, k⟩⟩
  refine PySem.W.callWith_K (h₀ := X.base) I.ok.mod.kin T.og.kC (thn hargs fun us s1 ⟨vs, H1, I1, r1, v, ev, q1⟩ => ⟨I1.kIn, ?_⟩) hst hpl
  subst ev
  show wpAny _ _ (call (.ref C) us) _ _ _
  obtain ⟨hp, gs, dr, tk, os⟩ := s1
  have big : hp.objs.size ≤ hp.objs.size + 1 := Nat.le_succ _
  have new : H1 (hp.objs.size + 1) = none := I1.hok.fresh big
  have stays : ∀ b o, hp.get? b = some o → ((hp.push (PySem.W.kdv_tup us)).push (PySem.HandSPX.excO C hp.objs.size)).get? b = some o := fun b o z => Heap.get?_push_of_some _ (Heap.get?_push_of_some _ z)
  have there : ((hp.push (PySem.W.kdv_tup us)).push (PySem.HandSPX.excO C hp.objs.size)).get? (hp.objs.size + 1) = some (PySem.HandSPX.excO C hp.objs.size) := by heap_get
  have J : Inv X pins σ (upd H1 (hp.objs.size + 1) (exo (hp.objs.size + 1) C none)) ⟨(hp.push (PySem.W.kdv_tup us)).push (PySem.HandSPX.excO C hp.objs.size), gs, dr, tk, os⟩ := I1.laid (t' := tk) stays big (exo_ok there)
  have len1 : us.length = 1 := r1.length.symm
  have r2 : Vals [V.ref (hp.objs.size + 1), v] (Value.ref (hp.objs.size + 1) :: us) := .cons rfl r1
  have two : (Value.ref (hp.objs.size + 1) :: us ++ []).length = (["self", f] : List Str).length := by
    rw [List.append_nil, List.length_cons, len1]
    rfl
  have bind := hb _ (Value.ref (hp.objs.size + 1) :: us) J.kIn two
  rw [List.append_nil] at bind
  have small : us.length ≤ sizeLine := by rw [len1, sizeLine_eq]; decide
  let Qe : VK := fun z H2 => z = .non ∧ ∃ (d : Addr) (fs : List (Str × V)), H2 (hp.objs.size + 1) = some (exo (hp.objs.size + 1) C (some d)) ∧ H2 d = some (exd d fs) ∧ H1 d = none ∧ Q (.ref C) (some d) (upd (del H2 (hp.objs.size + 1)) d (.xd fs))
  have kept : spIni C f [V.ref (hp.objs.size + 1), v] (upd H1 (hp.objs.size + 1) (exo (hp.objs.size + 1) C none)) Qe (fun _ _ _ => False) := ⟨_, v, rfl, upd_same, fun dx hn hne => by
    rw [upd_ne hne] at hn
    refine ⟨rfl, dx, [(f, v)], upd_same, by rw [upd_ne hne, upd_same], hn, ?_⟩
    rw [ini_end new hne]
    exact q1 dx hn⟩
  refine wpAny_call (PySem.HandSPX.call_own bas.ex (fun Y => over_has Y rs) (I1.kIn _ _ hC) (PySem.W.looks_findIn I1.kIn T.iC) (fun self => PySem.W.bind_fn I1.kIn self T.tI) small
    (codeAny_mono (F1.run _ X.stack _ _ ⟨Value.ref (hp.objs.size + 1) :: us, []⟩ (Value.ref (hp.objs.size + 1) :: us) _ Qe (fun _ _ _ => False) (hr.make C us []) (J.env0.make C us []) bind r2 kept) fun r s2 back => ?_))
  cases r with
  | error er =>
    obtain ⟨_, _, _, _, _, _, _, _, _, _, _, _, z⟩ := back
    exact z.elim
  | ok fl =>
    cases fl with
    | ret u =>
      obtain ⟨z, H2, os2, bare2, un2, hok2, rv, e0, d, fs, e1, e2, e3, q2⟩ := back
      subst e0
      obtain ⟨h2, g2, d2, t2, os'⟩ := s2
      exact ⟨rv, mk_end (raises_own T.og.exC T.og.tyC) I1 big stays un2 hok2 os2 bare2 e1 e2 e3 q2⟩
    | next => exact False.elim back
    | brk => exact False.elim back
    | cont => exact False.elim back
theorem ps_og (T : Eg X.K X.mg x C fI f) (F1 : FnOk X.prog X.w X.K X.mg X.base (L2.CX X.prog X.w) 1 fI fd ["self", f] (spIni C f)) (hb : Binds X.K fd ["self", f] []) (hr : Room 2 X.A) (hc : X.calm = true) (tk : Takes X W) (he : PE X e te) (hg : Gl X x)
    (hdb : (x == ("__debug__" : Str)) = false := by decide) (hst : starEach [e] X.env = (false, eval e X.env) :: starEach [] X.env := by rfl) (hpl : (backTo pos (starEach [] X.env)).any (·.1) = false := by rfl) :
    PS X (.Raise (some (.Call (.Name x p) [e] [] pos)) none pos2) (tRz C f W te) := ps_raise (pos := pos2) hc tk (mk_og T F1 hb hr he hg hdb hst hpl)
end
/-- raise x(e) -/
theorem s_raiseG {X : Cx} {c : Ct} {x fn : Str} {C fI : Addr} {fd : FuncData} {W : WX} {a : PySem.Expr} {f : Ev} {p pos pos2 : Pos} (T : Eg X.K X.mg x C fI fn) (hc : c.cl x = some C) (F1 : FnOk X.prog X.w X.K X.mg X.base (L2.CX X.prog X.w) 1 fI fd ["self", fn] (spIni C fn)) (hb : Binds X.K fd ["self", fn] []) (hr : Room 2 X.A) (hcm : X.calm = true) (tk : Takes X W) (he : PE X a (tE c (WE W) f)) (hg : Gl X x)
    (hdb : (x == ("__debug__" : Str)) = false := by decide) (hst : starEach [a] X.env = (false, eval a X.env) :: starEach [] X.env := by rfl) (hpl : (backTo pos (starEach [] X.env)).any (·.1) = false := by rfl) :
    PS X (.Raise (some (.Call (.Name x p) [a] [] pos)) none pos2) (tS c (WE W) (mRaise x fn f)) :=
  ps_imp (ps_og T F1 hb hr hcm tk he hg hdb hst hpl) fun D σ H ⟨η, S, n, r, d, al⟩ => ⟨η, S, n, r, d, all_mono (all_hd.mp al) (fun d1 k q v H1 S1 g1 dk h1 dx hdx => by
    have r1 := r.grow g1
    have ga := Gr.alloc0 (o := HO.xd [(fn, v)]) r1.sub hdx
    exact q σ C dx v _ S1 (r1.grow ga.d) (dk.sub ga.keep) g1.up hc upd_same (r1.free0 hdx) h1) fun e k q => Thrown.of (D := D) r q⟩
/-- an own error class of one field, its __init__ st -/
def Eo (K : PySem.W.Frag) (x q f : Str) (st : Stmt) (C : Addr) : Prop := ∃ (fI : Addr) (fd : FuncData), (∀ mg : Str → Option Value, mg x = some (.ref C) → Eg K mg x C fI f) ∧ Fun K "__init__" q st fI fd
section
variable {K : PySem.W.Frag} {x q f nm qn : Str} {st : Stmt} {C fI N : Addr} {bs : List Value} {sn : List Str} {sub : List Value} {ab : Bool} {col : Option Bool} {dd : Option Addr} {m0 m1 m2 m3 m5 : Option Value} {rs : List Addr}
  {oc : Value} {od an : Option Addr} {osl : Array (Option Value)} {kV doc pm cdv ct : Value}
theorem Eo.of {B nw ini : String} {bt : List Value} (b : Bas B nw ini bt) (xL : K.lookup C = some (excClassObj nm qn C N bs (overL rs bt) true sn sub ab col dd m0 m1 m2 m3 m5 nw))
    (sa : PySem.W.findIn K (.ref C) "__setattr__" = some (some (.builtin "object.__setattr__"))) (exC : PySem.W.subIn K (.ref C) (.type "BaseException") = some true) (tyC : PySem.W.typeIn K (.ref C) = some (.type "type")) (kC : PySem.W.keepIn K (.ref C) = true)
    (iC : PySem.W.findIn K (.ref C) "__init__" = some (some (.ref fI))) (tI : PySem.W.typeIn K (.ref fI) = some (.type "function")) (nf : PySem.W.findIn K (.ref C) f = some none)
    (ga : PySem.W.findIn K (.ref C) "__getattribute__" = some (some (.builtin "BaseException.__getattribute__"))) (gg : PySem.W.findIn K (.ref C) "__getattr__" = some none) (hd : PySem.W.hasDictIn K C = true)
    (cl : PySem.W.findIn K (.ref C) "__class__" = some (some (.builtin "object.__class__"))) (sg : PySem.W.specialIn K (.builtin "object.__class__") "__get__" = some (some (.builtin "getset_descriptor.__get__"))) (tk : PySem.W.takesIn K (.builtin "object.__class__") = some true) (mo : PySem.W.mroIn K C (.type "object") = some true)
    (l : K.lookup fI = some ⟨oc, od, .func (PySem.W.fnOf "__init__" q (defArgs st) (defBody st) (defScope st) .none kV doc pm an cdv ct), osl⟩) (c : PySem.W.codeIn K cdv q = true) (k : PySem.W.keepIn K (.ref fI) = true) : Eo K x q f st C :=
  ⟨_, _, fun mg g => ⟨g, ⟨⟨B, nw, ini, bt, b, nm, qn, N, bs, rs, sn, sub, ab, col, dd, m0, m1, m2, m3, m5, xL⟩, sa, exC, tyC, kC⟩, iC, tI, nf, ⟨ga, gg, exC, hd⟩, ⟨ga, gg, exC, hd, cl, sg, tk, mo⟩⟩, fun_mk l c k⟩
end
theorem Eo.mkV {K : PySem.W.Frag} {x q f nm qn : Str} {st : Stmt} {C fI N c1 : Addr} {bs : List Value} {sn : List Str} {sub : List Value} {ab : Bool} {col : Option Bool} {dd : Option Addr} {m0 m1 m2 m3 m5 : Option Value} {oc : Value} {od an : Option Addr} {osl : Array (Option Value)} {kV doc pm cdv ct : Value}
    (xL : K.lookup C = some (excClassObj nm qn C N bs [.ref c1, .type "ValueError", .type "Exception", .type "BaseException", .type "object"] true sn sub ab col dd m0 m1 m2 m3 m5 "ValueError.__new__")) (sa : PySem.W.findIn K (.ref C) "__setattr__" = some (some (.builtin "object.__setattr__"))) (exC : PySem.W.subIn K (.ref C) (.type "BaseException") = some true) (tyC : PySem.W.typeIn K (.ref C) = some (.type "type")) (kC : PySem.W.keepIn K (.ref C) = true)
    (iC : PySem.W.findIn K (.ref C) "__init__" = some (some (.ref fI))) (tI : PySem.W.typeIn K (.ref fI) = some (.type "function")) (nf : PySem.W.findIn K (.ref C) f = some none) (ga : PySem.W.findIn K (.ref C) "__getattribute__" = some (some (.builtin "BaseException.__getattribute__"))) (gg : PySem.W.findIn K (.ref C) "__getattr__" = some none) (hd : PySem.W.hasDictIn K C = true)
    (cl : PySem.W.findIn K (.ref C) "__class__" = some (some (.builtin "object.__class__"))) (sg : PySem.W.specialIn K (.builtin "object.__class__") "__get__" = some (some (.builtin "getset_descriptor.__get__"))) (tk : PySem.W.takesIn K (.builtin "object.__class__") = some true) (mo : PySem.W.mroIn K C (.type "object") = some true)
    (l : K.lookup fI = some ⟨oc, od, .func (PySem.W.fnOf "__init__" q (defArgs st) (defBody st) (defScope st) .none kV doc pm an cdv ct), osl⟩) (c : PySem.W.codeIn K cdv q = true) (k : PySem.W.keepIn K (.ref fI) = true) : Eo K x q f st C := by
  obtain ⟨i, b⟩ := bas_value
  exact Eo.of (rs := [c1]) b xL sa exC tyC kC iC tI nf ga gg hd cl sg tk mo l c k
theorem Eo.mkR {K : PySem.W.Frag} {x q f nm qn : Str} {st : Stmt} {C fI N c1 : Addr} {bs : List Value} {sn : List Str} {sub : List Value} {ab : Bool} {col : Option Bool} {dd : Option Addr} {m0 m1 m2 m3 m5 : Option Value} {oc : Value} {od an : Option Addr} {osl : Array (Option Value)} {kV doc pm cdv ct : Value}
    (xL : K.lookup C = some (excClassObj nm qn C N bs [.ref c1, .type "RuntimeError", .type "Exception", .type "BaseException", .type "object"] true sn sub ab col dd m0 m1 m2 m3 m5 "RuntimeError.__new__")) (sa : PySem.W.findIn K (.ref C) "__setattr__" = some (some (.builtin "object.__setattr__"))) (exC : PySem.W.subIn K (.ref C) (.type "BaseException") = some true) (tyC : PySem.W.typeIn K (.ref C) = some (.type "type")) (kC : PySem.W.keepIn K (.ref C) = true)
    (iC : PySem.W.findIn K (.ref C) "__init__" = some (some (.ref fI))) (tI : PySem.W.typeIn K (.ref fI) = some (.type "function")) (nf : PySem.W.findIn K (.ref C) f = some none) (ga : PySem.W.findIn K (.ref C) "__getattribute__" = some (some (.builtin "BaseException.__getattribute__"))) (gg : PySem.W.findIn K (.ref C) "__getattr__" = some none) (hd : PySem.W.hasDictIn K C = true)
    (cl : PySem.W.findIn K (.ref C) "__class__" = some (some (.builtin "object.__class__"))) (sg : PySem.W.specialIn K (.builtin "object.__class__") "__get__" = some (some (.builtin "getset_descriptor.__get__"))) (tk : PySem.W.takesIn K (.builtin "object.__class__") = some true) (mo : PySem.W.mroIn K C (.type "object") = some true)
    (l : K.lookup fI = some ⟨oc, od, .func (PySem.W.fnOf "__init__" q (defArgs st) (defBody st) (defScope st) .none kV doc pm an cdv ct), osl⟩) (c : PySem.W.codeIn K cdv q = true) (k : PySem.W.keepIn K (.ref fI) = true) : Eo K x q f st C := by
  obtain ⟨i, b⟩ := bas_runtime
  exact Eo.of (rs := [c1]) b xL sa exC tyC kC iC tI nf ga gg hd cl sg tk mo l c k
theorem Eo.mkL {K : PySem.W.Frag} {x q f nm qn : Str} {st : Stmt} {C fI N c1 : Addr} {bs : List Value} {sn : List Str} {sub : List Value} {ab : Bool} {col : Option Bool} {dd : Option Addr} {m0 m1 m2 m3 m5 : Option Value} {oc : Value} {od an : Option Addr} {osl : Array (Option Value)} {kV doc pm cdv ct : Value}
    (xL : K.lookup C = some (excClassObj nm qn C N bs [.ref c1, .type "LookupError", .type "Exception", .type "BaseException", .type "object"] true sn sub ab col dd m0 m1 m2 m3 m5 "LookupError.__new__")) (sa : PySem.W.findIn K (.ref C) "__setattr__" = some (some (.builtin "object.__setattr__"))) (exC : PySem.W.subIn K (.ref C) (.type "BaseException") = some true) (tyC : PySem.W.typeIn K (.ref C) = some (.type "type")) (kC : PySem.W.keepIn K (.ref C) = true)
    (iC : PySem.W.findIn K (.ref C) "__init__" = some (some (.ref fI))) (tI : PySem.W.typeIn K (.ref fI) = some (.type "function")) (nf : PySem.W.findIn K (.ref C) f = some none) (ga : PySem.W.findIn K (.ref C) "__getattribute__" = some (some (.builtin "BaseException.__getattribute__"))) (gg : PySem.W.findIn K (.ref C) "__getattr__" = some none) (hd : PySem.W.hasDictIn K C = true)
    (cl : PySem.W.findIn K (.ref C) "__class__" = some (some (.builtin "object.__class__"))) (sg : PySem.W.specialIn K (.builtin "object.__class__") "__get__" = some (some (.builtin "getset_descriptor.__get__"))) (tk : PySem.W.takesIn K (.builtin "object.__class__") = some true) (mo : PySem.W.mroIn K C (.type "object") = some true)
    (l : K.lookup fI = some ⟨oc, od, .func (PySem.W.fnOf "__init__" q (defArgs st) (defBody st) (defScope st) .none kV doc pm an cdv ct), osl⟩) (c : PySem.W.codeIn K cdv q = true) (k : PySem.W.keepIn K (.ref fI) = true) : Eo K x q f st C := by
  obtain ⟨i, b⟩ := bas_lookup
  exact Eo.of (rs := [c1]) b xL sa exC tyC kC iC tI nf ga gg hd cl sg tk mo l c k
end EV
end
section
set_option Elab.async false
set_option linter.all false
set_option maxRecDepth 100000
set_option maxHeartbeats 4000000
/-! Texts asked for texts; three names at once. -/
namespace EV
open PySem PySem.Spec PyProof.Rows L2 XK
section
variable {X : Cx} {c : Ct} {E : L2.St → XK} {a b e : PySem.Expr} {f g fa fb : Ev} {fs : EvL} {pos p apos : Pos} {es : List PySem.Expr} {i : Nat} {x : Str}
/-- z.name(y), both texts, an int comes back -/
def eAsk (g : Str → Str → Int) (fa fb : Ev) : Ev := fun η => (fa η).bind fun x => match x with
  | .str z => (fb η).bind fun y => match y with
    | .str u => .ret (.int (g z u))
    | _ => .bad
  | _ => .bad
theorem d_ask {id : String} {name : Str} {g : Str → Str → Int} (slot : Slot "str" name id) (ty : typeOf (.builtin id) = pure (.type "method_descriptor")) (rule : MtR X id (fun x xs H Q => ∃ a b, x = .str a ∧ xs = [.str b] ∧ Q (.int (g a b)) H)) (ha : PE X a (tE c E fa)) (hb : PE X b (tE c E fb))
    (hs : starEach [b] X.env = [(false, eval b X.env)] := by rfl) (hbase : attributeBase a name X.env (eval a X.env) = eval a X.env := by rfl) (hline : (apos.endLine == pos.line) = true := by rfl) :
    PE X (.Call (.Attribute a name apos) [b] [] pos) (tE c E (eAsk g fa fb)) :=
  pe_imp (pe_m1 slot ty rule ha hb hs hbase hline) fun σ H Q ⟨η, S, n, rl, dr, al⟩ => ⟨η, S, n, rl, dr, all_mono (all_bind.mp al) (fun d m q v H1 S1 g1 d1 h1 => by
    cases d with
    | str z =>
      cases h1
      exact ⟨⟨z, rfl⟩, η, S1, m, rl.grow g1, d1, all_mono (all_bind.mp q) (fun d2 k q v H2 S2 g2 d2' h2 => by
        cases d2 with
        | str u =>
          cases h2
          exact ⟨z, u, rfl, rfl, q _ H2 S2 (g1.trans g2) d2' (.int _)⟩
        | _ => exact (show False from q).elim) fun _ _ t => t.after g1⟩
    | _ => exact (show False from q).elim) fun _ _ t => t⟩
def gCount : Str → Str → Int := fun a b => Txt.count a b
def gFind : Str → Str → Int := fun a b => Txt.find a b
def gRfind : Str → Str → Int := fun a b => Txt.rfind a b
theorem d_count (ha : PE X a (tE c E fa)) (hb : PE X b (tE c E fb)) (hs : starEach [b] X.env = [(false, eval b X.env)] := by rfl) (hbase : attributeBase a "count" X.env (eval a X.env) = eval a X.env := by rfl) (hline : (apos.endLine == pos.line) = true := by rfl) :
    PE X (.Call (.Attribute a "count" apos) [b] [] pos) (tE c E (eAsk gCount fa fb)) := d_ask PySem.F.slot_str_count PySem.F.type_str_count mt_count ha hb hs hbase hline
theorem d_find (ha : PE X a (tE c E fa)) (hb : PE X b (tE c E fb)) (hs : starEach [b] X.env = [(false, eval b X.env)] := by rfl) (hbase : attributeBase a "find" X.env (eval a X.env) = eval a X.env := by rfl) (hline : (apos.endLine == pos.line) = true := by rfl) :
    PE X (.Call (.Attribute a "find" apos) [b] [] pos) (tE c E (eAsk gFind fa fb)) := d_ask PySem.F.slot_str_find PySem.F.type_str_find mt_find ha hb hs hbase hline
theorem d_rfind (ha : PE X a (tE c E fa)) (hb : PE X b (tE c E fb)) (hs : starEach [b] X.env = [(false, eval b X.env)] := by rfl) (hbase : attributeBase a "rfind" X.env (eval a X.env) = eval a X.env := by rfl) (hline : (apos.endLine == pos.line) = true := by rfl) :
    PE X (.Call (.Attribute a "rfind" apos) [b] [] pos) (tE c E (eAsk gRfind fa fb)) := d_ask PySem.F.slot_str_rfind PySem.F.type_str_rfind mt_rfind ha hb hs hbase hline
theorem MX.vals3 {H0 S H : Hp} {i j l : Nat} {vs : List V} {ds : List Val} {as : List Addr} (m : MX c H0 S H [i, j, l] vs ds as) : ∃ u v w, vs = [u, v, w] := by
  have h := m.len
  match vs, h with
  | [u, v, w], _ => exact ⟨u, v, w, rfl⟩
theorem s_par3 {i j l : Nat} {x y z : Str} {a b d : PySem.Expr} {px py pz pt pos : Pos} {kt k2 : Nat} {pt2 : Pos} (hc : X.calm = true) (hN : X.N.Nodup) (hi : X.N[i]? = some x) (hj : X.N[j]? = some y) (hl : X.N[l]? = some z) (hij : i ≠ j) (hil : i ≠ l) (hjl : j ≠ l)
    (hx : X.env.scope.names.lookup x = some .local) (hy : X.env.scope.names.lookup y = some .local) (hz : X.env.scope.names.lookup z = some .local) (ha : PA X [a, b, d] (tM c E [i, j, l] fs))
    (hw : swappedStores [.Tuple [.Name x px, .Name y py, .Name z pz] kt pt] (.Tuple [a, b, d] k2 pt2) X.env = pure (some [x, y, z])) (hs : swapsWithSole [.Tuple [.Name x px, .Name y py, .Name z pz] kt pt] (.Tuple [a, b, d] k2 pt2) pos.line X.env = pure false := by rfl) :
    PS X (.Assign [.Tuple [.Name x px, .Name y py, .Name z pz] kt pt] (.Tuple [a, b, d] k2 pt2) pos) (tS c E (mPars [i, j, l] fs)) :=
  ps_imp (ps_par3 hc hN hi hj hl hij hil hjl hx hy hz ha hw hs) fun D σ H ⟨η, S, n, r, d, al⟩ => ⟨η, S, n, r, d, all_mono (all_hd.mp al) (fun ds k q vs as H1 S1 g1 d1 hm hn => by
    have r1 := rel_setA' r g1 hm
    obtain ⟨u, v, w, rfl⟩ := hm.vals3
    exact ⟨u, v, w, rfl, q _ H1 S1 r1 d1 g1.up⟩) fun e k q => Thrown.of (D := D) r q⟩
end
end EV
end
section
set_option Elab.async false
set_option linter.all false
set_option maxRecDepth 100000
set_option maxHeartbeats 4000000
/-! del xs[a:] -/
namespace EV
open PySem PySem.Spec PyProof.Rows L2 XK
section
variable {prog : Program} {w : World} {A : Around} {E : Value → Shared → Prop} {s : Shared}
theorem fm_keep (f : Nat → Bool) : ∀ (its : List Value) (b : Nat), (∀ j, j < its.length → f (b + j) = false) → (its.zipIdx b).filterMap (fun p => if f p.2 = true then none else some p.1) = its
  | [], _, _ => rfl
  | x :: r, b, h => by
    rw [List.zipIdx_cons, List.filterMap_cons]
    have h0 : f b = false := h 0 (by simp)
    simp only [h0]
    rw [fm_keep f r (b + 1) fun j hj => by
      have := h (j + 1) (by simp; omega)
      rw [show b + 1 + j = b + (j + 1) by omega]
      exact this]
    rfl
theorem fm_drop (f : Nat → Bool) : ∀ (its : List Value) (b : Nat), (∀ j, j < its.length → f (b + j) = true) → (its.zipIdx b).filterMap (fun p => if f p.2 = true then none else some p.1) = []
  | [], _, _ => rfl
  | x :: r, b, h => by
    rw [List.zipIdx_cons, List.filterMap_cons]
    have h0 : f b = true := h 0 (by simp)
    simp only [h0]
    exact fm_drop f r (b + 1) fun j hj => by
      have := h (j + 1) (by simp; omega)
      rw [show b + 1 + j = b + (j + 1) by omega]
      exact this
theorem fm_take (f : Nat → Bool) (its : List Value) (k : Nat) (hk : k ≤ its.length) (h1 : ∀ j, j < k → f j = false) (h2 : ∀ j, k ≤ j → j < its.length → f j = true) : its.zipIdx.filterMap (fun p => if f p.2 = true then none else some p.1) = its.take k := by
  have e : its = its.take k ++ its.drop k := (List.take_append_drop k its).symm
  have l1 : (its.take k).length = k := by rw [List.length_take]; omega
  conv => lhs; rw [e]
  rw [List.zipIdx_append, List.filterMap_append, fm_keep f (its.take k) 0 fun j hj => by rw [Nat.zero_add]; exact h1 j (by omega), fm_drop f (its.drop k) _ fun j hj => by
    rw [List.length_drop] at hj
    rw [Nat.zero_add, l1]
    exact h2 _ (by omega) (by omega)]
  rw [List.append_nil]
open Builtin.List in
theorem del_slice {l sl : Addr} {its : List Value} {n : Nat} {vl vu : Value} {a : Int} {k : Nat} {Q : Unit → Shared → Prop} (e : s.heap.get? l = some { cls := .type "list", data := .seq its.toArray n }) (hs : s.heap.IsSliceOf sl vl vu .none) (pl : IsPart vl (some a)) (pu : IsPart vu none)
    (hb : sliceBounds (some a) none none its.length = ((k : Int), (its.length : Int), 1)) (hk : k ≤ its.length) (hsz : its.length ≤ sizeLine)
    (h : ∀ f : Array Value → Array Value, f its.toArray = (its.take k).toArray → Q () { s with heap := s.heap.update l (Obj.mapSeq f) }) : wpAny (model prog w) A (delItem (.ref l) (.ref sl)) Q E s := by
  have hl : s.heap.IsList l its.toArray := PySem.IsL.isList e
  obtain ⟨os, hos, hcs, hds⟩ := id hs
  have hTs : s.TypeIs (.ref sl) "slice" := ⟨os, hos, hcs⟩
  have hstep : ¬ ((rawPart none == rawInt 0) = true) := Bool.false_ne_true
  refine wpAny_delItem_slot hl.typeIs (by decide) F.slot_list_delitem (wpAny_call_entry F.slot_list_delitem hl.typeIs F.entry_list_delitem ?_ (F.args_list_delitem_2 _ _))
  show wpAny _ _ (Builtin.List.listSubscript? (.ref sl) >>= _) _ _ s
  refine wpAny_bind ?_
  unfold Builtin.List.listSubscript?
  refine wpAny_bind (wpAny_specialOf hTs slice_no_index ?_)
  simp only [Option.isNone_none, if_true]
  refine wpAny_pure ?_
  show wpAny _ _ (typeOf (.ref sl) >>= _) _ _ s
  refine wpAny_bind (wpAny_typeOf hTs ?_)
  first
    | rw [if_neg (by decide)]
    | refine PySem.W.KFB.if_not (by decide) ?_
  rw [listSliceParts_eq]
  refine wpAny_bind (wpAny_bind (wpAny_field hos hds (x := .none) rfl (wpAny_bind (wpAny_listPart .none ?_))))
  rw [if_neg hstep]
  refine wpAny_bind (wpAny_field hos hds (x := vl) rfl (wpAny_bind (wpAny_listPart pl ?_)))
  refine wpAny_bind (wpAny_field hos hds (x := vu) rfl (wpAny_bind (wpAny_listPart pu (wpAny_pure ?_))))
  unfold Builtin.List.listItems
  refine wpAny_bind (wpAny_bind (wpAny_seqItems e rfl (wpAny_pure ?_)))
  refine wpAny_bind (wpAny_of_eq ((sliceIndices_raw (some a) none none its.toArray.size (by simp)).trans (congrArg (pure : Int × Int × Int → Sem (Int × Int × Int)) rfl)) ?_)
  refine wpAny_bind (wpAny_rule ?_)
  rw [List.size_toArray, hb]
  refine wpAny_bind (wpAny_updateSeq (hz := by rw [List.size_toArray]; exact hsz) (_hz' := ?z) e rfl ?_)
  case z =>
    rw [List.size_toArray]
    refine Nat.le_trans (List.length_filterMap_le _ _) ?_
    rw [List.length_zipIdx]
    exact Nat.le_succ_of_le hsz
  refine wpAny_bind (wpAny_letGo ?_)
  refine wpAny_pure ⟨.none, rfl, h _ ?_⟩
  refine congrArg List.toArray (fm_take _ its k hk (fun j hj => ?_) (fun j h1 h2 => ?_))
  · show (if (1 : Int) > 0 then (decide ((k : Int) ≤ (j : Int)) && decide ((j : Int) < (its.length : Int)) && (((j : Int) - (k : Int)) % 1 == 0)) else _) = false
    rw [if_pos (by decide), decide_eq_false (by omega)]
    rfl
  · show (if (1 : Int) > 0 then (decide ((k : Int) ≤ (j : Int)) && decide ((j : Int) < (its.length : Int)) && (((j : Int) - (k : Int)) % 1 == 0)) else _) = true
    rw [if_pos (by decide), decide_eq_true (by omega), decide_eq_true (by omega), Int.emod_one]
    rfl
end
theorem sixBounds {n : Nat} {a : Int} : sliceBounds (some a) none none n = (((HT.sIx n 0 (some a) : Nat) : Int), (n : Int), (1 : Int)) := by
  simp only [sliceBounds, Option.getD_none, HT.sIx]
  have h : (1 : Int) > 0 := by decide
  simp only [h, if_true]
  by_cases z : a < 0
  · simp only [z, if_true]
    congr 1
    by_cases z2 : a + (n : Int) < 0
    · omega
    · omega
  · simp only [z, if_false]
    congr 1
    omega
theorem sIx_le {n : Nat} {a : Int} : HT.sIx n 0 (some a) ≤ n := by
  simp only [HT.sIx]
  split <;> omega
def tDelSl (to tl : TE) : TS := fun D σ H => to σ H fun x H1 => tl σ H1 fun y H2 => ∃ (l : Addr) (xs : List V) (a : Int), x = .ref l ∧ y = .int a ∧ H2 l = some (.lst xs) ∧ D.nx σ (upd H2 l (.lst (xs.take (HT.sIx xs.length 0 (some a)))))
section
variable {X : Cx}
theorem ps_delSl {o lo : PySem.Expr} {to tl : TE} {tpos p2 pos : Pos} (ho : PE X o to) (hl : PE X lo tl) : PS X (.Delete [.Subscript o (.Slice (some lo) none none p2) tpos] pos) (tDelSl to tl) := by
  refine ⟨fun pins s σ H D I h => ?_⟩
  refine wpAny_Delete (wpAny_deleteEach_cons (wpAny_delete_Subscript (thn (ho.run pins s σ H _ I h) fun u s1 ⟨x, H1, I1, rx, q1⟩ => ?_)))
  refine wpAny_Slice (thn ((po_some (pe_up hl)).run pins s1 σ H1 (fun q H2 => ∃ (l : Addr) (xs : List V) (a : Int), x = .ref l ∧ q = some a ∧ H2 l = some (.lst xs) ∧ D.nx σ (upd H2 l (.lst (xs.take (HT.sIx xs.length 0 (some a)))))) I1 ?_) fun vl s2 ⟨q, H2, I2, pl, l, xs, a, ex, eq, hH, fin⟩ => ?_)
  · exact ⟨_, q1, fun v H' ⟨l, xs, a, e1, e2, e3, fin⟩ => ⟨a, e2, l, xs, a, e1, rfl, e3, fin⟩⟩
  · subst ex eq
    refine thn (po_none.run pins s2 σ H2 (fun q H3 => q = none ∧ H3 = H2) I2 ⟨rfl, rfl⟩) fun vu s3 ⟨q, H3, I3, pu, eu, e3⟩ => ?_
    subst eu e3
    refine thn (po_none.run pins s3 σ H3 (fun q H4 => q = none ∧ H4 = H3) I3 ⟨rfl, rfl⟩) fun vs s4 ⟨q, H4, I4, pst, eo, e4⟩ => ?_
    subst eo e4
    cases rx
    have I5 : Inv X pins σ H4 { s4 with heap := s4.heap.push { cls := .type "slice", data := .fields #[vl, vu, vs] } } := I4.kept (t' := s4.toks) fun b ob q => Heap.get?_push_of_some _ q
    obtain ⟨z, its, n, r, hl2, e⟩ := I5.lstM hH
    cases pst
    have hlen := r.length
    have hz : its.length ≤ sizeLine := by omega
    refine del_slice (k := HT.sIx its.length 0 (some a)) e (Heap.IsSliceOf.new _ vl vu .none) pl pu sixBounds sIx_le hz fun f hf => ?_
    refine wpAny_deleteEach_nil ?_
    refine ⟨σ, _, I5.lset (its' := its.take (HT.sIx its.length 0 (some a))) (t' := s4.toks) hH e hf (r.take _) ?_, ?_⟩
    · rw [List.length_take]; omega
    · rw [← hlen]
      exact fin
end
/-! ### on data -/
def mDelSl (i : Nat) (f : Ev) : Sm := fun η => isLst i η ((f η).hd (fun d => match d with | .int a => onLst i η fun xs => some (xs.take (HT.sIx xs.length 0 (some a))) | _ => .bad) fun e => .ret (.ex e η))
section
variable {X : Cx} {c : Ct} {E : L2.St → XK} {a b e : PySem.Expr} {f g fa fb : Ev} {fs : EvL} {pos p p2 px tpos : Pos} {es : List PySem.Expr} {i : Nat} {x : Str}
theorem s_delSl (hi : i ∈ c.ow) (hv : PE X (.Name x px) (tVar i)) (ha : PE X a (tE c E f)) : PS X (.Delete [.Subscript (.Name x px) (.Slice (some a) none none p2) tpos] pos) (tS c E (mDelSl i f)) :=
  ps_imp (ps_delSl hv ha) fun D σ H ⟨η, S, n, r, d, al⟩ => by
    obtain ⟨⟨xs0, e0⟩, al⟩ := is_lst al
    obtain ⟨l, xs, h1, h2, _⟩ := r.lst hi e0
    refine ⟨_, h1, η, S, n, r, d, all_mono (all_hd.mp al) (fun d1 k q v H1 S1 g1 dk hv => ?_) fun e k q => Thrown.of (D := D) r q⟩
    cases d1 with
    | int j =>
      cases hv
      obtain ⟨xs', ys, e1, e2, q⟩ := on_lst q
      cases e2
      obtain ⟨l', vs, h3, h4, h5, h6⟩ := (r.grow g1).lst hi e1
      rw [h1] at h3
      cases h3
      have hl := h5.len
      obtain ⟨r2, d2⟩ := h6 (h5.take (HT.sIx vs.length 0 (some j))) dk
      refine ⟨_, vs, j, rfl, rfl, h4, ?_⟩
      rw [← hl] at q
      exact q σ _ S1 r2 d2 g1.up
    | _ => exact (show False from q).elim
end
end EV
end
section
set_option Elab.async false
set_option linter.all false
set_option maxRecDepth 100000
set_option maxHeartbeats 4000000
/-! A text or a tuple turned round. -/
namespace EV
open PySem PySem.Spec PyProof.Rows L2 XK
def revS (z : Str) : Str := ⟨z.cps.toList.reverse.toArray⟩
theorem back_range (n : Nat) : Builtin.Str.strSliceIndices none none (-1) n = (List.range n).reverse := by
  show sliceRange (if (-1 : Int) > 0 then 0 else (n : Int) - 1) (if (-1 : Int) > 0 then (n : Int) else -1) (-1) = _
  rw [if_neg (by decide), if_neg (by decide)]
  unfold sliceRange
  have hc : (if (-1 : Int) > 0 then (if (n : Int) - 1 < -1 then (-1 - ((n : Int) - 1) + -1 - 1) / -1 else 0) else (if (n : Int) - 1 > -1 then ((n : Int) - 1 - -1 - -1 - 1) / (- -1) else 0)).toNat = n := by
    rw [if_neg (by decide)]
    split
    · have : (- -1 : Int) = 1 := by decide
      rw [this, Int.ediv_one]
      omega
    · omega
  dsimp only
  rw [hc]
  apply List.ext_getElem
  · simp
  · intro i h1 h2
    simp at h1
    simp only [List.getElem_map, List.getElem_range, List.getElem_reverse, List.length_range]
    omega
theorem all_at (l : List Nat) : (List.range l.length).filterMap (fun i => l[i]?) = l := by
  have h : (List.range l.length).map (fun i => l[i]?) = l.map some := by
    apply List.ext_getElem
    · simp
    · intro i h1 h2
      simp at h1
      simp [h1]
  have h2 : (List.range l.length).filterMap (fun i => l[i]?) = ((List.range l.length).map (fun i => l[i]?)).filterMap id := by
    rw [List.filterMap_map]
    rfl
  rw [h2, h, List.filterMap_map]
  show l.filterMap some = l
  exact List.filterMap_some
theorem back_text (z : Str) : (⟨((List.range z.length).reverse.filterMap (z.cps[·]?)).toArray⟩ : Str) = revS z := by
  unfold revS
  rw [List.filterMap_reverse]
  have := all_at z.cps.toList
  have e : (List.range z.length).filterMap (z.cps[·]?) = z.cps.toList := by
    have e1 : z.length = z.cps.toList.length := by simp [Str.length]
    rw [e1]
    refine Eq.trans ?_ this
    congr 1
    funext i
    simp
  rw [e]
def tRevS (te : TE) : TE := fun σ H Q => te σ H fun x H1 => ∃ z : Str, x = .str z ∧ z.length ≤ 1000000 ∧ Q (.str (revS z)) H1
section
variable {X : Cx} {e : PySem.Expr} {te : TE} {pos : Pos}
theorem pe_revS {k : Nat} {p1 p2 p3 : Pos} (he : PE X e te) : PE X (.Subscript e (.Slice none none (some (.UnaryOp .USub (.Constant (.int 1) k p1) p2)) p3) pos) (tRevS te) := by
  refine ⟨fun pins s σ H Q I h => Subscript_ (thn (he.run pins s σ H _ I h) fun v s1 ⟨x, H1, I1, r1, z, ex, hz, q⟩ => ?_)⟩
  subst ex
  obtain ⟨t, rfl⟩ := r1
  have step : PO X (some (.UnaryOp .USub (.Constant (.int 1) k p1) p2)) (tPart (tUn (rU fun i => .int (-i)) (tC (.int 1)))) := po_some (pe_un un_neg pe_int)
  refine wpAny_Slice (thn (po_none.run pins s1 σ H1 (fun o H2 => o = none ∧ H2 = H1) I1 ⟨rfl, rfl⟩) fun vl s2 ⟨l, H2, I2, pl, el, e2⟩ => ?_)
  subst el e2
  refine thn (po_none.run pins s2 σ H2 (fun o H3 => o = none ∧ H3 = H2) I2 ⟨rfl, rfl⟩) fun vu s3 ⟨u, H3, I3, pu, eu, e3⟩ => ?_
  subst eu e3
  refine thn (step.run pins s3 σ H3 (fun o H4 => o = some (-1) ∧ H4 = H3) I3 ⟨1, rfl, -1, rfl, rfl, rfl⟩) fun vs s4 ⟨o, H4, I4, pst, eo, e4⟩ => ?_
  subst eo e4
  have I5 : Inv X pins σ H4 { s4 with heap := s4.heap.push { cls := .type "slice", data := .fields #[vl, vu, vs] } } := I4.kept (t' := s4.toks) fun b ob q => Heap.get?_push_of_some _ q
  cases pl
  cases pu
  cases pst with
  | int i tk =>
    refine tail_any (ops := [.str z t, .ref s4.heap.objs.size]) (typeIs_str _ _ _) F.slot_str_getitem.lookup ?_ (by with_unfolding_all rfl)
    refine wpAny_getItem_str_slice (l := none) (u := none) (st := some (-1, tk)) ⟨_, Heap.get?_push_size _ rfl, rfl, rfl⟩ rfl ?_
    show Made.post (if ((-1 : Int) == 1 && (Builtin.Str.strSliceIndices none none (-1) z.length).length == z.length) = true then Made.val (.str z t) else Made.str ⟨((Builtin.Str.strSliceIndices none none (-1) z.length).filterMap (z.cps[·]?)).toArray⟩) (EP X pins σ Q) _
    rw [if_neg (by rw [show ((-1 : Int) == 1) = false from rfl, Bool.false_and]; exact Bool.false_ne_true), back_range, back_text]
    refine ⟨?_, .str _, H4, I5.tok _, ⟨_, rfl⟩, q⟩
    have : (revS z).length = z.length := by simp [revS, Str.length]
    rw [this]
    exact small6 hz
variable {c : Ct} {E : L2.St → XK} {f : Ev}
def eRevS (f : Ev) : Ev := fun η => (f η).bind fun d => match d with | .str z => if z.length ≤ 1000000 then .ret (.str (revS z)) else .bad | _ => .bad
def eRevT (f : Ev) : Ev := fun η => (f η).bind fun d => match d with | .tup xs => if xs.length ≤ 1000000 then .ret (.tup xs.reverse) else .bad | _ => .bad
theorem d_revS {k : Nat} {p1 p2 p3 : Pos} (he : PE X e (tE c E f)) : PE X (.Subscript e (.Slice none none (some (.UnaryOp .USub (.Constant (.int 1) k p1) p2)) p3) pos) (tE c E (eRevS f)) :=
  pe_imp (pe_revS he) fun σ H Q ⟨η, S, n, rl, dr, al⟩ => ⟨η, S, n, rl, dr, all_mono (all_bind.mp al) (fun d m q v H1 S1 g1 d1 h1 => by
    cases d with
    | str z =>
      cases h1
      dsimp only at q
      split at q
      · rename_i hz
        exact ⟨z, rfl, hz, q _ H1 S1 g1 d1 (.str _)⟩
      · exact q.elim
    | _ => exact (show False from q).elim) fun _ _ t => t⟩
theorem d_revT {k : Nat} {p1 p2 p3 : Pos} (hK : X.K = c.K) (he : PE X e (tE c E f)) : PE X (.Subscript e (.Slice none none (some (.UnaryOp .USub (.Constant (.int 1) k p1) p2)) p3) pos) (tE c E (eRevT f)) :=
  pe_imp (pe_revP he) fun σ H Q ⟨η, S, n, rl, dr, al⟩ => ⟨η, S, n, rl, dr, all_mono (all_bind.mp al) (fun d m q v H1 S1 g1 d1 h1 => by
    cases d with
    | tup ds =>
      cases h1 with
      | tup hT hd =>
      rename_i a xs
      dsimp only at q
      split at q
      · rename_i hz
        have r1 := rl.grow g1
        refine ⟨a, xs, rfl, ?_, fun p o hp ho => ?_⟩
        · rw [hK]
          exact (hT.mono r1.sub).sq
        · exact q _ _ _ (g1.trans (Gr.alloc r1.sub hp).d) (d1.sub (Gr.alloc r1.sub hp).keep) (DV.newT (r1.sub.free hp) ho hd.rev)
      · exact q.elim
    | _ => exact (show False from q).elim) fun _ _ t => t⟩
end
end EV
end
section
set_option Elab.async false
set_option linter.all false
set_option maxRecDepth 100000
set_option maxHeartbeats 4000000
/-! list(range(n)); two lists or tuples side by side. -/
namespace EV
open PySem PySem.Spec PyProof.Rows L2 XK RZ
section
variable {X : Cx} {c : Ct} {E : L2.St → XK} {a b e : PySem.Expr} {f g fa fb : Ev} {fs : EvL} {pos p p2 rp : Pos} {es : List PySem.Expr}
def eLrg (f : Ev) : Ev := fun η => (f η).bind fun d => match d with | .int n => if 0 ≤ n ∧ n ≤ 1000000 then .ret (.lst ((List.range n.toNat).map fun (k : Nat) => .int k)) else .bad | _ => .bad
theorem rg_dv {S : Hp} (n : Nat) : DVs c.K c.cl S (rgV 0 n) ((List.range n).map fun (k : Nat) => Val.int k) := by
  have key : ∀ l : List Nat, DVs c.K c.cl S (l.map fun i => V.int (0 + (i : Nat))) (l.map fun (k : Nat) => Val.int k) := by
    intro l
    induction l with
    | nil => exact .nil
    | cons x r ih =>
      have := DV.int (K := c.K) (cl := c.cl) (S := S) ((x : Nat) : Int)
      refine .cons ?_ ih
      show DV c.K c.cl S (V.int (0 + ((x : Nat) : Int))) (Val.int x)
      rw [Int.zero_add]
      exact this
  unfold rgV
  have e : ((n : Int) - 0).toNat = n := by omega
  rw [e]
  exact key _
theorem d_listRg (hc : X.calm = true) (hg : Gl X "list") (hm : X.mg "list" = none) (hg2 : Gl X "range") (hm2 : X.mg "range" = none) (ha : PE X a (tE c E f)) (na : starEach [a] X.env = (false, eval a X.env) :: starEach [] X.env := by rfl)
    (na2 : starEach [PySem.Expr.Call (.Name "range" rp) [a] [] p2] X.env = (false, eval (.Call (.Name "range" rp) [a] [] p2) X.env) :: starEach [] X.env := by rfl) : PE X (.Call (.Name "list" p) [.Call (.Name "range" rp) [a] [] p2] [] pos) (tN c E (eLrg f)) :=
  pe_imp (pe_listRg hc hg hm (prg_1 hg2 hm2 ha na) na2) fun σ H Q ⟨η, S, n, rl, dr, al⟩ => ⟨η, S, n, rl, dr, all_mono (all_bind.mp al) (fun d m q v H1 S1 g1 d1 h1 => by
    cases d with
    | int k =>
      cases h1
      dsimp only at q
      split at q
      · rename_i hk
        have r1 := rl.grow g1
        refine ⟨k, rfl, RgOk.of_le (by decide) (by omega) (by decide) hk.1, fun l hl => ?_⟩
        have ek : ((k.toNat : Nat) : Int) = k := Int.toNat_of_nonneg hk.1
        have hd := rg_dv (c := c) (S := S1) k.toNat
        rw [ek] at hd
        exact q l _ S1 (g1.trans (Gr.alloc0 r1.sub hl).d) (d1.sub (Gr.alloc0 r1.sub hl).keep) (rl.none0 g1 hl) (own_new r1 hl hd)
      · exact q.elim
    | _ => exact (show False from q).elim) fun _ _ t => t⟩
/-! zip(a, b) -/
def zips (xs ys : List Val) : List Val := xs.zipWith (fun x y => .tup [x, y]) ys
def iZip2 (fs : EvL) : EvL := fun η => (fs η).bind fun vs => match vs with
  | [.lst xs, .lst ys] => .ret (zips xs ys)
  | [.tup xs, .tup ys] => .ret (zips xs ys)
  | _ => .bad
theorem duo_new {H S : Hp} {T : Addr} {x y : V} {d e : Val} (s : Sub S H) (n : H T = none) (h : DV c.K c.cl S x d) (h2 : DV c.K c.cl S y e) : ∃ S2, Gr H S (upd H T (.tup [x, y])) S2 ∧ VR c true S2 (.ref T) (.tup [d, e]) :=
  ⟨_, Gr.alloc s n, DX.tup (SqT.of upd_same) (.cons (h.mono (Sub.new (s.free n))) (.cons (h2.mono (Sub.new (s.free n))) .nil))⟩
theorem zips_get {xs ys : List Val} {i : Nat} {d : Val} (h : (zips xs ys)[i]? = some d) : ∃ x y, xs[i]? = some x ∧ ys[i]? = some y ∧ d = .tup [x, y] := by
  unfold zips at h
  rw [List.getElem?_zipWith] at h
  split at h
  · rename_i x y h1 h2
    cases h
    exact ⟨x, y, h1, h2, rfl⟩
  · cases h
theorem zips_len (xs ys : List Val) : (zips xs ys).length = min xs.length ys.length := by simp [zips]
theorem itok_zipL {S : Hp} {p q : Addr} {xs ys : List V} {ds es : List Val} (h : SqL c.K S p xs) (hd : DVs c.K c.cl S xs ds) (h' : SqL c.K S q ys) (hd' : DVs c.K c.cl S ys es) : ItOk c true S (Itz c.K p q) (zips ds es) := by
  have l1 := hd.len
  have l2 := hd'.len
  refine ⟨fun i H S1 s0 s1 hi => ?_, fun H S1 s0 s1 => ?_, fun i H S1 x H' s0 s1 y d e => ?_⟩
  · rw [zips_len] at hi
    have hx : i < xs.length := by omega
    have hy : i < ys.length := by omega
    exact ⟨xs, ys, xs[i], ys[i], Same.seq (s0.trans s1) h, Same.seq (s0.trans s1) h', by simp [hx], by simp [hy]⟩
  · refine ⟨xs, ys, Same.seq (s0.trans s1) h, Same.seq (s0.trans s1) h', ?_⟩
    rw [zips_len]
    omega
  · obtain ⟨T, u, v, rfl, hT, rfl, y1, y2⟩ := y
    obtain ⟨d1, d2, e1, e2, rfl⟩ := zips_get e
    obtain ⟨u', h2, h3⟩ := hd.get e1
    obtain ⟨v', h4, h5⟩ := hd'.get e2
    have a1 := y1 xs (Same.seq (s0.trans s1) h)
    have a2 := y2 ys (Same.seq (s0.trans s1) h')
    rw [h2] at a1
    rw [h4] at a2
    cases a1
    cases a2
    exact duo_new s1 hT (h3.mono s0) (h5.mono s0)
theorem itok_zipT {S : Hp} {p q : Addr} {xs ys : List V} {ds es : List Val} (h : SqT c.K S p xs) (hd : DVs c.K c.cl S xs ds) (h' : SqT c.K S q ys) (hd' : DVs c.K c.cl S ys es) : ItOk c true S (ItzT c.K p q) (zips ds es) := by
  have l1 := hd.len
  have l2 := hd'.len
  refine ⟨fun i H S1 s0 s1 hi => ?_, fun H S1 s0 s1 => ?_, fun i H S1 x H' s0 s1 y d e => ?_⟩
  · rw [zips_len] at hi
    have hx : i < xs.length := by omega
    have hy : i < ys.length := by omega
    exact ⟨xs, ys, xs[i], ys[i], sqt_same (s0.trans s1) h, sqt_same (s0.trans s1) h', by simp [hx], by simp [hy]⟩
  · refine ⟨xs, ys, sqt_same (s0.trans s1) h, sqt_same (s0.trans s1) h', ?_⟩
    rw [zips_len]
    omega
  · obtain ⟨T, u, v, rfl, hT, rfl, y1, y2⟩ := y
    obtain ⟨d1, d2, e1, e2, rfl⟩ := zips_get e
    obtain ⟨u', h2, h3⟩ := hd.get e1
    obtain ⟨v', h4, h5⟩ := hd'.get e2
    have a1 := y1 xs (sqt_same (s0.trans s1) h)
    have a2 := y2 ys (sqt_same (s0.trans s1) h')
    rw [h2] at a1
    rw [h4] at a2
    cases a1
    cases a2
    exact duo_new s1 hT (h3.mono s0) (h5.mono s0)
variable {tpos : Pos} {elts : List PySem.Expr} {kk : Nat}
theorem i_zip2 (hK : X.K = c.K) (hg : Gl X "zip") (hm : X.mg "zip" = none) (ha : PA X [a, b] (tA c E fs)) (hs : starEach [a, b] X.env = (false, eval a X.env) :: starEach [b] X.env := by rfl) (hpl : (backTo pos (starEach [b] X.env)).any (·.1) = false := by rfl) :
    PI X (.Tuple elts kk tpos) (.Call (.Name "zip" p) [a, b] [] pos) (tI c true E (iZip2 fs)) :=
  pi_imp (pi_zipA hg hm ha hs hpl) fun σ H R ⟨η, S, n, r, d, al⟩ => ⟨η, S, n, r, d, all_mono (all_bind.mp al) (fun ds k q vs H1 S1 g1 d1 h1 => by
    split at q
    · obtain ⟨u, v, rfl, hu, hv⟩ := h1.two
      cases hu with
      | lst l1 x1 =>
        cases hv with
        | lst l2 x2 => exact ⟨_, _, _, _, rfl, .inl ⟨by rw [hK]; exact Same.seq (r.grow g1).sub l1, by rw [hK]; exact Same.seq (r.grow g1).sub l2, by rw [hK]; exact q _ H1 S1 g1 d1 (itok_zipL l1 x1 l2 x2)⟩⟩
    · obtain ⟨u, v, rfl, hu, hv⟩ := h1.two
      cases hu with
      | tup l1 x1 =>
        cases hv with
        | tup l2 x2 => exact ⟨_, _, _, _, rfl, .inr ⟨by rw [hK]; exact (l1.mono (r.grow g1).sub).sq, by rw [hK]; exact (l2.mono (r.grow g1).sub).sq, by rw [hK]; exact q _ H1 S1 g1 d1 (itok_zipT l1.sq x1 l2.sq x2)⟩⟩
    · exact q.elim) fun _ _ t => t⟩
/-! sum of a tuple of ints -/
def intsOf : List Val → Option (List Int)
  | [] => some []
  | .int i :: r => (intsOf r).map (i :: ·)
  | _ :: _ => none
theorem ints_v {S : Hp} : ∀ {xs : List V} {ds : List Val} {ns : List Int}, DVs c.K c.cl S xs ds → intsOf ds = some ns → xs = ns.map V.int
  | _, _, _, .nil, e => by cases e; rfl
  | _, d :: ds, ns, .cons h1 h2, e => by
    cases h1 with
    | int i =>
      cases w : intsOf ds with
      | none => rw [intsOf, w] at e; cases e
      | some r =>
        rw [intsOf, w] at e
        cases e
        rw [ints_v h2 w]
        rfl
    | _ => cases e
def vSum : List Val → Option Val
  | [.tup xs] => (intsOf xs).map fun ns => .int ns.sum
  | [.lst xs] => (intsOf xs).map fun ns => .int ns.sum
  | _ => none
def rSumA (K : PySem.W.Frag) : List V → Hp → VK → Prop := fun vs H Q => rSumT K vs H Q ∨ rSum K vs H Q
theorem call_sumA (hc : X.calm = true) : CallR X (.builtin "sum") (rSumA X.K) := CallR.or (call_sumT hc) (cr_sum hc)
theorem sem_sum : SemN c (rSumA c.K) vSum := by
  intro xs H S ds o Q s h hg q
  unfold vSum at hg
  split at hg
  · rename_i es
    obtain ⟨v, rfl, hv⟩ := h.one
    obtain ⟨a, ys, rfl, hs, hd⟩ := hv.tup s
    cases w : intsOf es with
    | none => rw [w] at hg; cases hg
    | some ns =>
      rw [w] at hg
      cases hg
      have e := ints_v hd w
      subst e
      exact .inl ⟨a, ns, rfl, hs, q _ H S (Gr.refl s) (.int _)⟩
  · rename_i es
    obtain ⟨v, rfl, hv⟩ := h.one
    obtain ⟨a, ys, rfl, hs, hd⟩ := hv.lst s
    cases w : intsOf es with
    | none => rw [w] at hg; cases hg
    | some ns =>
      rw [w] at hg
      cases hg
      have e := ints_v hd w
      subst e
      exact .inr ⟨a, ns, rfl, hs, q _ H S (Gr.refl s) (.int _)⟩
  · cases hg
end
end EV
end
section
set_option Elab.async false
set_option linter.all false
set_option maxRecDepth 100000
set_option maxHeartbeats 4000000
/-! Walking through a def's data function. -/
namespace EV
open PySem PySem.Spec PyProof.Rows L2 XK
section
variable {η : Env} {n : Nat} {f fa fb fc : Ev} {ft gt : Env → T Bool} {fs ks : EvL} {Q : Val → Nat → Prop} {QB : Bool → Nat → Prop} {QL : List Val → Nat → Prop} {QO : Out → Nat → Prop} {E : Err → Nat → Prop} {i j : Nat} {d : Val} {m m' : Sm}
theorem v_vr (h : η[i]? = some (some d)) (q : Q d n) : All (vr i η) n Q E := by
  show All (ofO (η[i]?.join)) n Q E
  rw [h]
  exact q
theorem v_kI {k : Int} (q : Q (.int k) n) : All (kI k η) n Q E := q
theorem v_kS {k : Str} (q : Q (.str k) n) : All (kS k η) n Q E := q
theorem v_kB {k : Bool} (q : Q (.bl k) n) : All (kB k η) n Q E := q
theorem v_kN (q : Q .non n) : All (kN η) n Q E := q
theorem v_o {α : Type} {o : Option α} {P : α → Nat → Prop} (h : ∃ a, o = some a ∧ P a n) : All (ofO o) n P E := all_ofO.mpr h
theorem v_bin {g : Val → Val → Option Val} (h : All (fa η) n (fun x a => All (fb η) a (fun y b => ∃ o, g x y = some o ∧ Q o b) E) E) : All (eBin g fa fb η) n Q E :=
  all_bind.mpr (all_mono h (fun _ _ h => all_bind.mpr (all_mono h (fun _ _ h => v_o h) fun _ _ h => h)) fun _ _ h => h)
theorem v_chain {g g' : Val → Val → Option Val} (h : All (fa η) n (fun x a => All (fb η) a (fun y b => ∃ z, g x y = some (.bl z) ∧ (z = true → All (fc η) b (fun w k => ∃ o, g' y w = some o ∧ Q o k) E) ∧ (z = false → Q (.bl false) b)) E) E) : All (eChain g g' fa fb fc η) n Q E :=
  all_bind.mpr (all_mono h (fun _ _ h => all_bind.mpr (all_mono h (fun _ _ ⟨z, e, h1, h2⟩ => all_bind.mpr (v_o ⟨_, e, by
    cases z with
    | true => exact all_bind.mpr (all_mono (h1 rfl) (fun _ _ h => v_o h) fun _ _ h => h)
    | false => exact h2 rfl⟩)) fun _ _ h => h)) fun _ _ h => h)
theorem v_and (h : All (fa η) n (fun x a => ∃ z, x = .bl z ∧ (z = true → All (fb η) a Q E) ∧ (z = false → Q (.bl false) a)) E) : All (eAnd fa fb η) n Q E :=
  all_bind.mpr (all_mono h (fun _ _ ⟨z, e, h1, h2⟩ => by
    subst e
    cases z with
    | true => exact h1 rfl
    | false => exact h2 rfl) fun _ _ h => h)
theorem v_or (h : All (fa η) n (fun x a => ∃ z, x = .bl z ∧ (z = false → All (fb η) a Q E) ∧ (z = true → Q (.bl true) a)) E) : All (eOr fa fb η) n Q E :=
  all_bind.mpr (all_mono h (fun _ _ ⟨z, e, h1, h2⟩ => by
    subst e
    cases z with
    | true => exact h2 rfl
    | false => exact h1 rfl) fun _ _ h => h)
theorem v_not (h : All (fa η) n (fun x a => ∃ z, x = .bl z ∧ Q (.bl (!z)) a) E) : All (eNot fa η) n Q E :=
  all_bind.mpr (all_mono h (fun _ _ ⟨z, e, h1⟩ => by
    subst e
    exact h1) fun _ _ h => h)
theorem v_if (h : All (ft η) n (fun k a => (k = true → All (fa η) a Q E) ∧ (k = false → All (fb η) a Q E)) E) : All (eIf ft fa fb η) n Q E :=
  all_bind.mpr (all_mono h (fun k _ ⟨h1, h2⟩ => by
    cases k with
    | true => exact h1 rfl
    | false => exact h2 rfl) fun _ _ h => h)
theorem v_neg (h : All (fa η) n (fun x a => ∃ z, x = .int z ∧ Q (.int (-z)) a) E) : All (eNeg fa η) n Q E :=
  all_bind.mpr (all_mono h (fun _ _ ⟨z, e, h1⟩ => by
    subst e
    exact h1) fun _ _ h => h)
theorem v_tst (h : All (f η) n (fun x a => ∃ b, x = .bl b ∧ QB b a) E) : All (tst f η) n QB E :=
  all_bind.mpr (all_mono h (fun _ _ ⟨b, e, h1⟩ => by
    subst e
    exact h1) fun _ _ h => h)
theorem v_tru (h : All (f η) n (fun x a => ∃ b, truth x = some b ∧ QB b a) E) : All (tru f η) n QB E := all_bind.mpr (all_mono h (fun _ _ h => v_o h) fun _ _ h => h)
theorem v_tNo (h : All (ft η) n (fun k a => QB (!k) a) E) : All (tNo ft η) n QB E := all_bind.mpr (all_mono h (fun _ _ h => h) fun _ _ h => h)
theorem v_both (h : All (ft η) n (fun k a => (k = true → All (gt η) a QB E) ∧ (k = false → QB false a)) E) : All (tBoth ft gt η) n QB E :=
  all_bind.mpr (all_mono h (fun k _ ⟨h1, h2⟩ => by
    cases k with
    | true => exact h1 rfl
    | false => exact h2 rfl) fun _ _ h => h)
theorem v_some (h : All (ft η) n (fun k a => (k = false → All (gt η) a QB E) ∧ (k = true → QB true a)) E) : All (tSome ft gt η) n QB E :=
  all_bind.mpr (all_mono h (fun k _ ⟨h1, h2⟩ => by
    cases k with
    | true => exact h2 rfl
    | false => exact h1 rfl) fun _ _ h => h)
theorem v_noIf (h : QB true n) : All (noIf η) n QB E := h
theorem v_nil (h : QL [] n) : All (aNil η) n QL E := h
theorem v_cons (h : All (f η) n (fun x a => All (fs η) a (fun xs b => QL (x :: xs) b) E) E) : All (aCons f fs η) n QL E := all_bind.mpr (all_mono h (fun _ _ h => all_bind.mpr (all_mono h (fun _ _ h => h) fun _ _ h => h)) fun _ _ h => h)
theorem v_tup (h : All (fs η) n (fun xs a => xs.length ≤ 1000 ∧ Q (.tup xs) a) E) : All (eTup fs η) n Q E := all_bind.mpr (all_mono h (fun _ _ ⟨h1, h2⟩ => by rw [if_pos h1]; exact h2) fun _ _ h => h)
theorem v_lst (h : All (fs η) n (fun xs a => xs.length ≤ 1000 ∧ Q (.lst xs) a) E) : All (eLst fs η) n Q E := all_bind.mpr (all_mono h (fun _ _ ⟨h1, h2⟩ => by rw [if_pos h1]; exact h2) fun _ _ h => h)
theorem v_B {g : List Val → Option Val} (h : All (fs η) n (fun xs a => ∃ o, g xs = some o ∧ Q o a) E) : All (eB g fs η) n Q E := all_bind.mpr (all_mono h (fun _ _ h => v_o h) fun _ _ h => h)
theorem v_call {F : List Val → R} (h : All (fs η) n (fun xs a => All (ofR (F xs)) a Q E) E) : All (eCall F fs η) n Q E := all_bind.mpr h
theorem v_callK {F : List Val → R} {ix : List Nat} (h : All (fs η) n (fun xs a => All (ks η) a (fun ys b => All (ofR (F (gK i j ix xs ys))) b Q E) E) E) : All (eCallK i j ix F fs ks η) n Q E := all_bind.mpr (all_mono h (fun _ _ h => all_bind.mpr h) fun _ _ h => h)
theorem v_callD {F : List Val → R} {des : List Val} (h : All (fs η) n (fun xs a => All (ofR (F (xs ++ des))) a Q E) E) : All (eCallD des F fs η) n Q E := all_bind.mpr h
theorem v_ret {r : R} (e : r = .ret d) (q : Q d n) : All (ofR r) n Q E := by rw [e]; exact q
theorem v_err {r : R} {x : Err} (e : r = .err x) (q : E x n) : All (ofR r) n Q E := by rw [e]; exact q
theorem v_draw {F : List Val → T Val} (h : All (fs η) n (fun xs a => All (F xs) a Q (fun _ _ => False)) E) : All (eDraw F fs η) n Q E :=
  all_bind.mpr (all_mono h (fun _ _ h => all_hd.mpr (all_mono h (fun _ _ h => h) fun _ _ h => h.elim)) fun _ _ h => h)
theorem v_next {b : Int} {a : Nat} (e : n = a + 1) (h0 : 0 < b) (h1 : b < 1073741824) (h : ∀ v, 0 ≤ v → v < b → Q (.int v) a) : All (nextF [.int b]) n Q E := ⟨a, e, h0, h1, fun v v0 v1 => h v v0 v1⟩
theorem v_isT {t : String} (h : All (f η) n (fun x a => ∃ b, isT t x = some b ∧ Q (.bl b) a) E) : All (eIsT t f η) n Q E :=
  all_bind.mpr (all_mono h (fun x _ ⟨b, e, h⟩ => v_o ⟨.bl b, by rw [e]; rfl, h⟩) fun _ _ h => h)
/-! statements -/
def onNx (m' : Sm) (Q : Out → Nat → Prop) (E : Err → Nat → Prop) : Out → Nat → Prop
  | .nx η', k => All (m' η') k Q E
  | o, k => Q o k
theorem v_nx {η' : Env} (h : All (m' η') n QO E) : onNx m' QO E (.nx η') n := h
theorem v_seq (h : All (m η) n (onNx m' QO E) E) : All (mSeq m m' η) n QO E := all_bind.mpr (all_mono h (fun o _ h => by cases o <;> exact h) fun _ _ h => h)
theorem v_mNil (h : QO (.nx η) n) : All (mNil η) n QO E := h
theorem v_set (h : All (f η) n (fun d k => QO (.nx (η.set i (some d))) k) (fun e k => QO (.ex e η) k)) : All (mSet i f η) n QO E := all_hd.mpr h
theorem v_mIf (h : All (ft η) n (fun k a => (k = true → All (m η) a QO E) ∧ (k = false → All (m' η) a QO E)) (fun e k => QO (.ex e η) k)) : All (mIf ft m m' η) n QO E :=
  all_hd.mpr (all_mono h (fun k _ ⟨h1, h2⟩ => by
    cases k with
    | true => exact h1 rfl
    | false => exact h2 rfl) fun _ _ h => h)
theorem v_mRet (h : All (f η) n (fun d k => QO (.rt d) k) E) : All (mRet f η) n QO E := all_bind.mpr h
theorem v_expr (h : All (f η) n (fun d k => QO (.nx η) k) (fun e k => QO (.ex e η) k)) : All (mExpr f η) n QO E := all_hd.mpr h
theorem v_raise {x fn : Str} (h : All (f η) n (fun d k => QO (.ex ⟨x, fn, d⟩ η) k) (fun e k => QO (.ex e η) k)) : All (mRaise x fn f η) n QO E := all_hd.mpr h
theorem v_asg {g : Val → Env → Option Env} (h : All (f η) n (fun d k => ∃ η', g d η = some η' ∧ QO (.nx η') k) (fun e k => QO (.ex e η) k)) : All (mAsg g f η) n QO E :=
  all_hd.mpr (all_mono h (fun _ _ h => all_bind.mpr (v_o h)) fun _ _ h => h)
theorem v_pars {is : List Nat} (h : All (fs η) n (fun ds k => QO (.nx (setA η is ds)) k) (fun e k => QO (.ex e η) k)) : All (mPars is fs η) n QO E := all_hd.mpr h
/-- a loop: P by the turn -/
theorem v_turns {g : Val → Env → Option Env} (P : Nat → Env → Nat → Prop) : ∀ (ds : List Val) (i : Nat) (η : Env) (n : Nat), P i η n →
    (∀ k d η a, ds[k]? = some d → P (i + k) η a → ∃ η1, g d η = some η1 ∧ All (m η1) a (fun o b => match o with | .nx η2 => P (i + k + 1) η2 b | .ct η2 => P (i + k + 1) η2 b | .bk η2 => QO (.nx η2) b | o => QO o b) E) →
    (∀ η a, P (i + ds.length) η a → QO (.nx η) a) → All (turns g m ds η) n QO E
  | [], i, η, n, h, _, fin => fin η n h
  | d :: r, i, η, n, h, st, fin => by
    obtain ⟨η1, e1, h1⟩ := st 0 d η n rfl h
    refine all_bind.mpr (v_o ⟨η1, e1, all_bind.mpr (all_mono h1 (fun o b q => ?_) fun _ _ h => h)⟩)
    have again := fun η2 (q : P (i + 1) η2 b) => v_turns P r (i + 1) η2 b q (fun k d' η' a e p => by
      have := st (k + 1) d' η' a e (by rw [show i + (k + 1) = i + 1 + k by omega]; exact p)
      rw [show i + (k + 1) = i + 1 + k by omega] at this
      exact this) (fun η' a p => fin η' a (by rw [List.length_cons, show i + (r.length + 1) = i + 1 + r.length by omega]; exact p))
    cases o with
    | nx η2 => exact again η2 q
    | ct η2 => exact again η2 q
    | bk η2 => exact q
    | rt d => exact q
    | ex e η2 => exact q
theorem v_for {g : Val → Env → Option Env} {fl : EvL} (h : All (fl η) n (fun ds k => All (turns g m ds η) k QO E) (fun e k => QO (.ex e η) k)) : All (mFor g fl m η) n QO E := all_hd.mpr h
/-! a def -/
def isRt (d : Val) : Out → Nat → Prop
  | .rt d', _ => d' = d
  | .nx _, _ => d = .non
  | _, _ => False
theorem run_ret {ds : List Val} {np N : Nat} (hl : ds.length = np) (h : All (m (envP N ds)) 0 (isRt d) (fun _ _ => False)) : runP np N m ds = .ret d := by
  unfold runP
  rw [if_pos hl]
  generalize m (envP N ds) = t at h
  cases t with
  | ret o =>
    cases o with
    | rt d' => exact congrArg R.ret h
    | nx η => exact congrArg R.ret (Eq.symm h)
    | ex e η => exact h.elim
    | bk η => exact h.elim
    | ct η => exact h.elim
  | err e => exact h.elim
  | draw b k =>
    obtain ⟨a, e, _⟩ := h
    cases e
  | bad => exact h.elim
def isEx (x : Err) : Out → Nat → Prop
  | .ex e _, _ => e = x
  | _, _ => False
theorem run_err {ds : List Val} {np N : Nat} {x : Err} (hl : ds.length = np) (h : All (m (envP N ds)) 0 (isEx x) (fun e _ => e = x)) : runP np N m ds = .err x := by
  unfold runP
  rw [if_pos hl]
  generalize m (envP N ds) = t at h
  cases t with
  | ret o =>
    cases o with
    | ex e η => exact congrArg R.err h
    | rt d' => exact h.elim
    | nx η => exact h.elim
    | bk η => exact h.elim
    | ct η => exact h.elim
  | err e => exact congrArg R.err h
  | draw b k =>
    obtain ⟨a, e, _⟩ := h
    cases e
  | bad => exact h.elim
end
end EV
end
section
set_option Elab.async false
set_option linter.all false
set_option maxRecDepth 100000
set_option maxHeartbeats 4000000
/-! More of the walk: iterators, comprehensions, lists of the def's own, what is caught. -/
namespace EV
open PySem PySem.Spec PyProof.Rows L2 XK
theorem ret_of {α : Type} {t : T α} {v : α} (h : All t 0 (fun x _ => x = v) (fun _ _ => False)) : t = .ret v := by
  cases t with
  | ret a => exact congrArg T.ret h
  | err e => exact h.elim
  | draw b k => obtain ⟨a, e, _⟩ := h; cases e
  | bad => exact h.elim
theorem of_ret {α : Type} {t : T α} {v : α} {n : Nat} {Q : α → Nat → Prop} {E : Err → Nat → Prop} (e : t = .ret v) (q : Q v n) : All t n Q E := by rw [e]; exact q
section
variable {η η0 : Env} {n : Nat} {f fa fb fc fe : Ev} {ft gt : Env → T Bool} {fs ks fl : EvL} {lo hi : EvO} {Q : Val → Nat → Prop} {QB : Bool → Nat → Prop} {QL : List Val → Nat → Prop} {QO : Out → Nat → Prop} {QP : Option Int → Nat → Prop} {E : Err → Nat → Prop} {i j : Nat} {d : Val} {m m' m2 : Sm} {g : Val → Env → Option Env} {vs : List Nat}
theorem v_iOf (h : All (f η) n (fun d k => ∃ l, itemsOf d = some l ∧ QL l k) E) : All (iOf f η) n QL E := all_bind.mpr (all_mono h (fun _ _ h => v_o h) fun _ _ h => h)
theorem v_iEnuT (h : All (fs η) n (fun xs k => ∃ ds, xs = [.tup ds] ∧ QL (pairs ds) k) E) : All (iEnuT fs η) n QL E := all_bind.mpr (all_mono h (fun _ _ ⟨ds, e, h⟩ => by subst e; exact h) fun _ _ h => h)
theorem v_iEnuL (h : All (fs η) n (fun xs k => ∃ ds, xs = [.lst ds] ∧ QL (pairs ds) k) E) : All (iEnuL fs η) n QL E := all_bind.mpr (all_mono h (fun _ _ ⟨ds, e, h⟩ => by subst e; exact h) fun _ _ h => h)
theorem v_iEnuS (h : All (fs η) n (fun xs k => ∃ z : Str, xs = [.str z] ∧ QL (pairs (z.cps.toList.map fun k => .str ⟨#[k]⟩)) k) E) : All (iEnuS fs η) n QL E := all_bind.mpr (all_mono h (fun _ _ ⟨ds, e, h⟩ => by subst e; exact h) fun _ _ h => h)
theorem v_iRng (h : All (fs η) n (fun xs k => ∃ j : Int, xs = [.int j] ∧ (j ≤ 1000000 ∧ -1000000 ≤ j) ∧ QL ((List.range j.toNat).map fun k => .int (k : Nat)) k) E) : All (iRng fs η) n QL E :=
  all_bind.mpr (all_mono h (fun _ _ ⟨j, e, h1, h⟩ => by subst e; show All (if _ then _ else _) _ _ _; rw [if_pos h1]; exact h) fun _ _ h => h)
theorem v_iRngB (h : All (fs η) n (fun xs k => ∃ i j : Int, xs = [.int i, .int j] ∧ ((j ≤ 1000000 ∧ -1000000 ≤ j) ∧ i ≤ 1000000 ∧ -1000000 ≤ i) ∧ QL ((List.range (j - i).toNat).map fun k => .int (i + (k : Nat))) k) E) : All (iRngB fs η) n QL E :=
  all_bind.mpr (all_mono h (fun _ _ ⟨i, j, e, h1, h⟩ => by subst e; show All (if _ then _ else _) _ _ _; rw [if_pos h1]; exact h) fun _ _ h => h)
theorem v_zip2L (h : All (fs η) n (fun xs k => ∃ a b, (xs = [.lst a, .lst b] ∨ xs = [.tup a, .tup b]) ∧ QL (zips a b) k) E) : All (iZip2 fs η) n QL E := all_bind.mpr (all_mono h (fun _ _ ⟨a, b, e, h⟩ => by rcases e with e | e <;> (subst e; exact h)) fun _ _ h => h)
theorem v_lc (h : All (fl η) n (fun ds k => ds.length ≤ 1000000 ∧ All (lcGo (wipeE η vs) g ft fe ds) k (fun xs a => Q (.lst xs) a) E) E) : All (eLc vs fl g ft fe η) n Q E :=
  all_bind.mpr (all_mono h (fun ds k ⟨h1, h⟩ => by rw [if_pos h1]; exact all_bind.mpr (all_mono h (fun _ _ h => h) fun _ _ h => h)) fun _ _ h => h)
/-- a block without draws: what it keeps of each item -/
theorem v_lcGo (keep : Val → Option Val) : ∀ {ds : List Val} {n : Nat} {QL : List Val → Nat → Prop} {E : Err → Nat → Prop},
    (∀ d ∈ ds, ∃ η1 b, g d η0 = some η1 ∧ ft η1 = .ret b ∧ (b = true → ∃ o, fe η1 = .ret o ∧ keep d = some o) ∧ (b = false → keep d = none)) → QL (ds.filterMap keep) n → All (lcGo η0 g ft fe ds) n QL E
  | [], n, QL, E, _, q => q
  | d :: r, n, QL, E, h, q => by
    obtain ⟨η1, b, e1, e2, h1, h2⟩ := h d List.mem_cons_self
    refine all_bind.mpr (v_o ⟨η1, e1, all_hd.mpr (of_ret e2 ?_)⟩)
    cases b with
    | true =>
      obtain ⟨o, e3, e4⟩ := h1 rfl
      rw [if_pos rfl]
      refine all_hd.mpr (of_ret e3 (all_bind.mpr (v_lcGo keep (fun d hd => h d (List.mem_cons_of_mem _ hd)) ?_)))
      rw [List.filterMap_cons, e4] at q
      exact q
    | false =>
      rw [if_neg Bool.false_ne_true]
      refine v_lcGo keep (fun d hd => h d (List.mem_cons_of_mem _ hd)) ?_
      rw [List.filterMap_cons, h2 rfl] at q
      exact q
/-- a block that draws: P by what is made -/
theorem v_lcGoP (P : List Val → List Val → Nat → Prop) : ∀ {ds acc : List Val} {n : Nat} {QL : List Val → Nat → Prop} {E : Err → Nat → Prop}, P acc ds n →
    (∀ acc d r a, P acc (d :: r) a → ∃ η1, g d η0 = some η1 ∧ All (ft η1) a (fun b k => (b = true → All (fe η1) k (fun o c => P (acc ++ [o]) r c) (fun _ _ => False)) ∧ (b = false → P acc r k)) (fun _ _ => False)) →
    (∀ acc' a, P acc' [] a → ∀ xs, acc' = acc ++ xs → QL xs a) → All (lcGo η0 g ft fe ds) n QL E
  | [], acc, n, QL, E, h, _, fin => fin acc n h [] (List.append_nil _).symm
  | d :: r, acc, n, QL, E, h, st, fin => by
    obtain ⟨η1, e1, h1⟩ := st acc d r n h
    refine all_bind.mpr (v_o ⟨η1, e1, all_hd.mpr (all_mono h1 (fun b k ⟨t, f⟩ => ?_) fun _ _ h => h.elim)⟩)
    cases b with
    | true =>
      rw [if_pos rfl]
      refine all_hd.mpr (all_mono (t rfl) (fun o c p => all_bind.mpr (v_lcGoP P p st fun acc' a p' xs e => ?_)) fun _ _ h => h.elim)
      exact fin acc' a p' (o :: xs) (by rw [e, List.append_assoc]; rfl)
    | false =>
      rw [if_neg Bool.false_ne_true]
      exact v_lcGoP P (f rfl) st fin
theorem v_join {z : Str} (h : All (f η) n (fun d k => ∃ o, vJoin z d = some o ∧ Q o k) E) : All (eJoin z f η) n Q E := all_bind.mpr (all_mono h (fun _ _ h => v_o h) fun _ _ h => h)
theorem v_list (h : All (f η) n (fun d k => ∃ l, vList d = some l ∧ Q (.lst l) k) E) : All (eList f η) n Q E := all_bind.mpr (all_mono h (fun _ _ ⟨l, e, h⟩ => v_o ⟨.lst l, by rw [e]; rfl, h⟩) fun _ _ h => h)
theorem v_dict (h : All (f η) n (fun d k => ∃ l, vDict d = some l ∧ Q (.dic l) k) E) : All (eDict f η) n Q E := all_bind.mpr (all_mono h (fun _ _ ⟨l, e, h⟩ => v_o ⟨.dic l, by rw [e]; rfl, h⟩) fun _ _ h => h)
theorem v_dic0 (h : Q (.dic []) n) : All (eDic0 η) n Q E := h
theorem v_lrg (h : All (f η) n (fun d k => ∃ j : Int, d = .int j ∧ (0 ≤ j ∧ j ≤ 1000000) ∧ Q (.lst ((List.range j.toNat).map fun (k : Nat) => .int k)) k) E) : All (eLrg f η) n Q E :=
  all_bind.mpr (all_mono h (fun _ _ ⟨j, e, h1, h⟩ => by subst e; show All (if _ then _ else _) _ _ _; rw [if_pos h1]; exact h) fun _ _ h => h)
theorem v_oNo (h : QP none n) : All (oNo η) n QP E := h
theorem v_oSo (h : All (f η) n (fun d k => ∃ i, d = .int i ∧ QP (some i) k) E) : All (oSo f η) n QP E := all_bind.mpr (all_mono h (fun _ _ ⟨i, e, h⟩ => by subst e; exact h) fun _ _ h => h)
theorem v_sl (h : All (f η) n (fun d a => All (lo η) a (fun l b => All (hi η) b (fun u k => ∃ o, vSl d l u = some o ∧ Q o k) E) E) E) : All (eSl f lo hi η) n Q E :=
  all_bind.mpr (all_mono h (fun _ _ h => all_bind.mpr (all_mono h (fun _ _ h => all_bind.mpr (all_mono h (fun _ _ h => v_o h) fun _ _ h => h)) fun _ _ h => h)) fun _ _ h => h)
theorem v_ask {k : Str → Str → Int} (h : All (fa η) n (fun x a => ∃ z, x = .str z ∧ All (fb η) a (fun y b => ∃ u, y = .str u ∧ Q (.int (k z u)) b) E) E) : All (eAsk k fa fb η) n Q E :=
  all_bind.mpr (all_mono h (fun _ _ ⟨z, e, h⟩ => by subst e; exact all_bind.mpr (all_mono h (fun _ _ ⟨u, e, h⟩ => by subst e; exact h) fun _ _ h => h)) fun _ _ h => h)
theorem v_isX {sub : Str → Bool} (h : All (f η) n (fun d k => ∃ o, vIsX sub [d] = some o ∧ Q o k) E) : All (eIsX sub f η) n Q E := all_bind.mpr (all_mono h (fun _ _ h => v_o h) fun _ _ h => h)
theorem v_fld {ns : List Str} {nm : Str} (h : All (f η) n (fun d k => ∃ C x, d = .exc C nm x ∧ C ∈ ns ∧ Q x k) E) : All (eFld ns nm f η) n Q E :=
  all_bind.mpr (all_mono h (fun _ _ ⟨C, x, e, h1, h⟩ => by subst e; show All (if _ then _ else _) _ _ _; rw [if_pos ⟨rfl, h1⟩]; exact h) fun _ _ h => h)
theorem v_revS (h : All (f η) n (fun d k => ∃ z, d = .str z ∧ z.length ≤ 1000000 ∧ Q (.str (revS z)) k) E) : All (eRevS f η) n Q E :=
  all_bind.mpr (all_mono h (fun _ _ ⟨z, e, h1, h⟩ => by subst e; show All (if _ then _ else _) _ _ _; rw [if_pos h1]; exact h) fun _ _ h => h)
theorem v_revT (h : All (f η) n (fun d k => ∃ z, d = .tup z ∧ z.length ≤ 1000000 ∧ Q (.tup z.reverse) k) E) : All (eRevT f η) n Q E :=
  all_bind.mpr (all_mono h (fun _ _ ⟨z, e, h1, h⟩ => by subst e; show All (if _ then _ else _) _ _ _; rw [if_pos h1]; exact h) fun _ _ h => h)
theorem v_onLst {k : List Val → Option (List Val)} (xs ys : List Val) (e1 : η[i]? = some (some (.lst xs))) (e2 : k xs = some ys) (h : QO (.nx (η.set i (some (.lst ys)))) n) : All (onLst i η k) n QO E := by
  unfold onLst
  rw [e1]
  dsimp only
  rw [e2]
  exact h
theorem v_app {xs : List Val} (e1 : η[i]? = some (some (.lst xs))) (h : All (f η) n (fun d k => xs.length < 1000000 ∧ QO (.nx (η.set i (some (.lst (xs ++ [d]))))) k) (fun e k => QO (.ex e η) k)) : All (mApp i f η) n QO E := by
  unfold mApp isLst
  rw [e1]
  exact all_hd.mpr (all_mono h (fun d k ⟨h1, h2⟩ => v_onLst xs _ e1 (if_pos h1) h2) fun _ _ h => h)
theorem v_ext {xs : List Val} (e1 : η[i]? = some (some (.lst xs))) (h : All (f η) n (fun d k => ∃ zs, d = .lst zs ∧ xs.length + zs.length < 1000000 ∧ QO (.nx (η.set i (some (.lst (xs ++ zs))))) k) (fun e k => QO (.ex e η) k)) : All (mExt i f η) n QO E := by
  unfold mExt isLst
  rw [e1]
  exact all_hd.mpr (all_mono h (fun d k ⟨zs, e, h1, h2⟩ => by subst e; exact v_onLst xs _ e1 (if_pos h1) h2) fun _ _ h => h)
theorem v_delSl {xs : List Val} (e1 : η[i]? = some (some (.lst xs))) (h : All (f η) n (fun d k => ∃ a, d = .int a ∧ QO (.nx (η.set i (some (.lst (xs.take (HT.sIx xs.length 0 (some a))))))) k) (fun e k => QO (.ex e η) k)) : All (mDelSl i f η) n QO E := by
  unfold mDelSl isLst
  rw [e1]
  exact all_hd.mpr (all_mono h (fun d k ⟨a, e, h2⟩ => by subst e; exact v_onLst xs _ e1 rfl h2) fun _ _ h => h)
theorem v_store {xs : List Val} (e1 : η[i]? = some (some (.lst xs))) (h : All (f η) n (fun d k => All (fb η) k (fun y b => ∃ (q : Int) (u : Nat), y = .int q ∧ ixN xs.length q = some u ∧ QO (.nx (η.set i (some (.lst (xs.set u d))))) b) (fun e k => QO (.ex e η) k)) (fun e k => QO (.ex e η) k)) : All (mStore i fb f η) n QO E := by
  unfold mStore
  refine all_hd.mpr (all_mono h (fun d k h => ?_) fun _ _ h => h)
  unfold isLst
  rw [e1]
  exact all_hd.mpr (all_mono h (fun y b ⟨q, u, e, e2, h⟩ => by subst e; exact v_onLst xs _ e1 (by rw [e2]; rfl) h) fun _ _ h => h)
end
theorem glue0 : ∀ (r : List Str) (acc : Array Nat), (r.foldl (fun acc p => acc ++ ("" : Str).cps ++ p.cps) acc).toList = acc.toList ++ (r.map fun x => x.cps.toList).flatten
  | [], acc => by simp
  | x :: r, acc => by
    rw [List.foldl_cons, glue0 r]
    have e : (("" : Str)).cps = #[] := rfl
    rw [e]
    simp
theorem join0 (ys : List Str) : (Txt.join "" ys).cps.toList = (ys.map fun x => x.cps.toList).flatten := by
  show (((ys.drop 1).foldl (fun acc p => acc ++ ("" : Str).cps ++ p.cps) (ys.headD Str.empty).cps)).toList = _
  cases ys with
  | nil => rfl
  | cons x r => exact glue0 r x.cps
theorem sum_ones : ∀ (ys : List Str), (∀ y ∈ ys, y.length = 1) → (ys.map (·.length)).sum = ys.length
  | [], _ => rfl
  | y :: r, h => by
    rw [List.map_cons, List.sum_cons, h y List.mem_cons_self, sum_ones r fun z hz => h z (List.mem_cons_of_mem _ hz), List.length_cons]
    omega
theorem vJoin_lst {z : Str} {xs : List Val} {ys : List Str} (e : strsOf xs = some ys) (h : (ys.map (·.length)).sum + ys.length * z.length ≤ 1000000) : vJoin z (.lst xs) = some (.str (Txt.join z ys)) := by
  simp only [vJoin, e, Option.bind_some, if_pos h]
theorem vJoin_tup {z : Str} {xs : List Val} {ys : List Str} (e : strsOf xs = some ys) (h : (ys.map (·.length)).sum + ys.length * z.length ≤ 1000000) : vJoin z (.tup xs) = some (.str (Txt.join z ys)) := by
  simp only [vJoin, e, Option.bind_some, if_pos h]
theorem fm_all {α β : Type} {f : α → Option β} {g : α → β} : ∀ {l : List α}, (∀ a ∈ l, f a = some (g a)) → l.filterMap f = l.map g
  | [], _ => rfl
  | a :: l, h => by
    rw [List.filterMap_cons, h a List.mem_cons_self, fm_all fun b hb => h b (List.mem_cons_of_mem _ hb)]
    rfl
theorem str_eq {x y : Str} (h : x.cps.toList = y.cps.toList) : x = y := by
  cases x
  cases y
  congr 1
  exact Array.toList_inj.mp h
/-- a text of the signs ks -/
def txtOf (ks : List Nat) : Str := ⟨ks.toArray⟩
theorem join_signs (ks : List Nat) : Txt.join "" (ks.map fun k => (⟨#[k]⟩ : Str)) = txtOf ks := str_eq (by
  rw [join0, List.map_map]
  show (ks.map fun k => [k]).flatten = ks
  induction ks with
  | nil => rfl
  | cons k r ih =>
    rw [List.map_cons, List.flatten_cons, ih]
    rfl)
theorem strs_signs (ks : List Nat) : strsOf (ks.map fun k => Val.str ⟨#[k]⟩) = some (ks.map fun k => (⟨#[k]⟩ : Str)) := by
  induction ks with
  | nil => rfl
  | cons k r ih =>
    rw [List.map_cons, strsOf, ih]
    rfl
/-- signs joined -/
theorem vJoin_signs {ks : List Nat} (h : ks.length ≤ 1000000) : vJoin "" (.lst (ks.map fun k => Val.str ⟨#[k]⟩)) = some (.str (txtOf ks)) := by
  rw [vJoin_lst (strs_signs ks), join_signs]
  rw [sum_ones _ (fun y hy => by
    obtain ⟨k, _, rfl⟩ := List.mem_map.mp hy
    rfl), List.length_map]
  show ks.length + ks.length * 0 ≤ 1000000
  omega
theorem vIn_sign {k : Nat} {z : Str} : vIn (.str ⟨#[k]⟩) (.str z) = some (.bl (decide (k ∈ z.cps.toList))) := rfl
theorem vNotIn_sign {k : Nat} {z : Str} : vNotIn (.str ⟨#[k]⟩) (.str z) = some (.bl (!decide (k ∈ z.cps.toList))) := rfl
/-- a def that draws -/
def outD (Q : Val → Nat → Prop) (E : Err → Nat → Prop) : Out → Nat → Prop
  | .rt d, k => Q d k
  | .nx _, k => Q .non k
  | .ex e _, k => E e k
  | _, _ => False
theorem run_draw {ds : List Val} {np N n : Nat} {m : Sm} {Q : Val → Nat → Prop} {E : Err → Nat → Prop} (hl : ds.length = np) (h : All (m (envD N ds)) n (outD Q E) E) : All (runD np N m ds) n Q E := by
  unfold runD
  rw [if_pos hl]
  exact all_bind.mpr (all_mono h (fun o k h => by cases o <;> exact h) fun _ _ h => h)
theorem v_next1 {η : Env} {n a : Nat} {Q : Val → Nat → Prop} {E : Err → Nat → Prop} {b : Int} (e : n = a + 1) (h0 : 0 < b) (h1 : b < 1073741824) (h : ∀ v, 0 ≤ v → v < b → Q (.int v) a) : All (nextF [.int b]) n Q E := ⟨a, e, h0, h1, fun v v0 v1 => h v v0 v1⟩
end EV
end
section
set_option Elab.async false
set_option linter.all false
set_option maxRecDepth 100000
set_option maxHeartbeats 4000000
/-! Texts as lists of signs; operators on known values; loops and comprehensions over known lists. -/
namespace EV
open PySem PySem.Spec PyProof.Rows L2 XK
theorem txt_of (z : Str) : z = txtOf z.cps.toList := str_eq rfl
theorem txt_list (w : List Nat) : (txtOf w).cps.toList = w := rfl
theorem txt_len (w : List Nat) : (txtOf w).length = w.length := by
  show (txtOf w).cps.size = _
  rw [← Array.length_toList]
  rfl
theorem txt_app (a b : List Nat) : txtOf a ++ txtOf b = txtOf (a ++ b) := str_eq (by rw [cps_toList_append]; rfl)
theorem txt_inj {a b : List Nat} : txtOf a = txtOf b ↔ a = b := ⟨fun h => congrArg (fun z : Str => z.cps.toList) h, fun h => by rw [h]⟩
theorem vAdd_txt {a b : List Nat} (h : a.length + b.length ≤ 1000000) : vAdd (.str (txtOf a)) (.str (txtOf b)) = some (.str (txtOf (a ++ b))) := by
  show (if (txtOf a).length + (txtOf b).length ≤ 1000000 then some (Val.str (txtOf a ++ txtOf b)) else none) = _
  rw [txt_len, txt_len, if_pos h, txt_app]
theorem vLen_txt {w : List Nat} (h : w.length ≤ 1000000) : vLen [.str (txtOf w)] = some (.int (w.length : Nat)) := by
  show (if (txtOf w).length ≤ 1000000 then some (Val.int (txtOf w).length) else none) = _
  rw [txt_len, if_pos h]
theorem vIx_txt {w : List Nat} {i : Int} (n : Nat) {k : Nat} (e : i = (n : Nat)) (h : w[n]? = some k) (hl : w.length ≤ 1000000) : vIx (.str (txtOf w)) (.int i) = some (.str (txtOf [k])) := by
  subst e
  show (if (txtOf w).length ≤ 1000000 then (atI (txtOf w).cps.toList ((n : Nat) : Int)).map (fun k => Val.str ⟨#[k]⟩) else none) = _
  rw [txt_len, if_pos hl, txt_list, atI_nat h]
  rfl
theorem vIx_tup {ds : List Val} {i : Int} (n : Nat) {d : Val} (e : i = (n : Nat)) (h : ds[n]? = some d) : vIx (.tup ds) (.int i) = some d := by
  subst e
  exact atI_nat h
theorem vIx_lst {ds : List Val} {i : Int} (n : Nat) {d : Val} (e : i = (n : Nat)) (h : ds[n]? = some d) : vIx (.lst ds) (.int i) = some d := by
  subst e
  exact atI_nat h
theorem cut_txt (w : List Nat) (lo hi : Option Int) : cutS (txtOf w) lo hi = txtOf (cutD w lo hi) := by
  refine str_eq ?_
  have h := txt_len w
  show (((txtOf w).cps.toList.drop (HT.sIx (txtOf w).length 0 lo)).take (HT.sIx (txtOf w).length (txtOf w).length hi - HT.sIx (txtOf w).length 0 lo)).toArray.toList = _
  rw [h]
  rfl
theorem cutD_nn {α : Type} (w : List α) (i j : Nat) : cutD w (some (i : Int)) (some (j : Int)) = (w.drop i).take (j - i) := by
  unfold cutD
  rw [HT.sIx_nat, HT.sIx_nat]
  by_cases hi : i ≤ w.length
  · rw [Nat.min_eq_left hi]
    refine List.take_eq_take_iff.mpr ?_
    rw [List.length_drop]
    omega
  · rw [Nat.min_eq_right (by omega : w.length ≤ i), List.drop_of_length_le (by omega), List.drop_of_length_le (by omega)]
    simp
theorem cutD_n {α : Type} (w : List α) (i : Nat) : cutD w (some (i : Int)) none = w.drop i := by
  unfold cutD
  rw [HT.sIx_nat]
  show (w.drop (min i w.length)).take (w.length - min i w.length) = _
  by_cases hi : i ≤ w.length
  · rw [Nat.min_eq_left hi]
    exact List.take_of_length_le (by rw [List.length_drop]; omega)
  · rw [Nat.min_eq_right (by omega : w.length ≤ i), List.drop_of_length_le (Nat.le_refl _), List.drop_of_length_le (by omega)]
    exact List.take_nil
theorem cutD_0 {α : Type} (w : List α) (j : Nat) : cutD w none (some (j : Int)) = w.take j := by
  unfold cutD
  rw [HT.sIx_nat]
  show (w.drop 0).take (min j w.length - 0) = _
  rw [List.drop_zero, Nat.sub_zero, List.take_eq_take_iff]
  omega
theorem vSl_nn {w : List Nat} {a b : Int} (i j : Nat) (e1 : a = (i : Nat)) (e2 : b = (j : Nat)) (hl : w.length ≤ 1000000) : vSl (.str (txtOf w)) (some a) (some b) = some (.str (txtOf ((w.drop i).take (j - i)))) := by
  subst e1 e2
  show (if (txtOf w).length ≤ 1000000 then some (Val.str (cutS (txtOf w) (some (i : Int)) (some (j : Int)))) else none) = _
  rw [txt_len, if_pos hl, cut_txt, cutD_nn]
theorem vSl_n {w : List Nat} {a : Int} (i : Nat) (e1 : a = (i : Nat)) (hl : w.length ≤ 1000000) : vSl (.str (txtOf w)) (some a) none = some (.str (txtOf (w.drop i))) := by
  subst e1
  show (if (txtOf w).length ≤ 1000000 then some (Val.str (cutS (txtOf w) (some (i : Int)) none)) else none) = _
  rw [txt_len, if_pos hl, cut_txt, cutD_n]
theorem vSl_0 {w : List Nat} {b : Int} (j : Nat) (e2 : b = (j : Nat)) (hl : w.length ≤ 1000000) : vSl (.str (txtOf w)) none (some b) = some (.str (txtOf (w.take j))) := by
  subst e2
  show (if (txtOf w).length ≤ 1000000 then some (Val.str (cutS (txtOf w) none (some (j : Int)))) else none) = _
  rw [txt_len, if_pos hl, cut_txt, cutD_0]
theorem rep_txt (n k : Nat) : repS n (txtOf [k]) = txtOf (List.replicate n k) := str_eq (by
  show (List.replicate n [k]).flatten = List.replicate n k
  induction n with
  | zero => rfl
  | succ i ih => rw [List.replicate_succ, List.flatten_cons, ih, List.replicate_succ]; rfl)
theorem vMul_txt {k : Nat} {i : Int} (n : Nat) (e : i = (n : Nat)) (h : n ≤ 1000) : vMulA (.str (txtOf [k])) (.int i) = some (.str (txtOf (List.replicate n k))) := by
  subst e
  show (if 0 ≤ ((n : Nat) : Int) ∧ ((n : Nat) : Int) ≤ 1000 ∧ (txtOf [k]).length ≤ 1000 then some (Val.str (repS ((n : Nat) : Int).toNat (txtOf [k]))) else none) = _
  rw [if_pos ⟨by omega, by omega, by show 1 ≤ 1000; decide⟩, Int.toNat_natCast, rep_txt]
theorem eqG_txt (a b : List Nat) : eqG (.str (txtOf a)) (.str (txtOf b)) = some (.bl (decide (a = b))) := by
  show some (Val.bl (txtOf a == txtOf b)) = _
  congr 2
  rw [Bool.eq_iff_iff, beq_iff_eq, decide_eq_true_iff]
  exact txt_inj
theorem neG_txt (a b : List Nat) : neG (.str (txtOf a)) (.str (txtOf b)) = some (.bl (!decide (a = b))) := by
  show some (Val.bl (!(txtOf a == txtOf b))) = _
  congr 3
  rw [Bool.eq_iff_iff, beq_iff_eq, decide_eq_true_iff]
  exact txt_inj
theorem eqG_int (a b : Int) : eqG (.int a) (.int b) = some (.bl (decide (a = b))) := by
  show some (Val.bl (a == b)) = _
  congr 2
theorem neG_int (a b : Int) : neG (.int a) (.int b) = some (.bl (!decide (a = b))) := by
  show some (Val.bl (!(a == b))) = _
  congr 3
theorem eqv_self {d : Val} (h : plain d = true) : PyData.eqv (toD d) (toD d) = true := PySem.SeqAt.eqv_refl_plain _ (plain_d h)
theorem neG_self {d : Val} (h : plain d = true) (hd : (toD d).depth ≤ 60) : neG d d = some (.bl false) := by
  unfold neG vEqP
  rw [h, decide_eq_true hd, eqv_self h]
  rfl
theorem eqG_self {d : Val} (h : plain d = true) (hd : (toD d).depth ≤ 60) : eqG d d = some (.bl true) := by
  unfold eqG vEqC
  rw [h, decide_eq_true hd, eqv_self h]
  rfl
theorem neG_str (z : Str) : neG (.str z) (.str z) = some (.bl false) := neG_self rfl (by show (0 : Nat) ≤ 60; decide)
theorem pairs_txt (w : List Nat) : pairs (w.map fun k => Val.str (txtOf [k])) = (List.range w.length).map fun i => .tup [.int (i : Nat), .str (txtOf [w.getD i 0])] := by
  apply List.ext_getElem
  · simp [pairs]
  · intro i h1 h2
    have hi : i < w.length := by simpa using h2
    simp [pairs, List.getElem?_eq_getElem hi]
/-! loops over known lists -/
section
variable {η η0 : Env} {m : Sm} {g : Val → Env → Option Env} {ft : Env → T Bool} {fe : Ev} {QO : Out → Nat → Prop} {QL : List Val → Nat → Prop} {E : Err → Nat → Prop}
abbrev noE : Err → Nat → Prop := fun _ _ => False
theorem v_turnsM {α : Type} (enc : α → Val) (P : Nat → Env → Nat → Prop) (l : List α) {n : Nat} (h0 : P 0 η n)
    (st : ∀ k x η a, l[k]? = some x → P k η a → ∃ η1, g (enc x) η = some η1 ∧ All (m η1) a (fun o b => match o with | .nx η2 => P (k + 1) η2 b | .ct η2 => P (k + 1) η2 b | .bk η2 => QO (.nx η2) b | o => QO o b) E)
    (fin : ∀ η a, P l.length η a → QO (.nx η) a) : All (turns g m (l.map enc) η) n QO E :=
  v_turns P (l.map enc) 0 η n h0 (fun k d η a hd p => by
    rw [List.getElem?_map] at hd
    obtain ⟨x, hx, rfl⟩ := Option.map_eq_some_iff.mp hd
    rw [Nat.zero_add] at p ⊢
    exact st k x η a hx p) fun η a p => fin η a (by rwa [Nat.zero_add, List.length_map] at p)
theorem v_lcM {α : Type} (enc : α → Val) (p : α → Bool) (o : α → Val) : ∀ {l : List α} {n : Nat} {QL : List Val → Nat → Prop},
    (∀ x ∈ l, ∃ η1, g (enc x) η0 = some η1 ∧ All (ft η1) 0 (fun b _ => b = p x) noE ∧ (p x = true → All (fe η1) 0 (fun v _ => v = o x) noE)) → QL ((l.filter p).map o) n → All (lcGo η0 g ft fe (l.map enc)) n QL E
  | [], n, QL, _, q => q
  | x :: r, n, QL, h, q => by
    obtain ⟨η1, e1, h1, h2⟩ := h x List.mem_cons_self
    refine all_bind.mpr (v_o ⟨η1, e1, all_hd.mpr (of_ret (ret_of h1) ?_)⟩)
    cases hp : p x with
    | true =>
      rw [if_pos rfl]
      refine all_hd.mpr (of_ret (ret_of (h2 hp)) (all_bind.mpr (v_lcM enc p o (fun y hy => h y (List.mem_cons_of_mem _ hy)) ?_)))
      rw [List.filter_cons, hp, if_pos rfl, List.map_cons] at q
      exact q
    | false =>
      rw [if_neg Bool.false_ne_true]
      refine v_lcM enc p o (fun y hy => h y (List.mem_cons_of_mem _ hy)) ?_
      rw [List.filter_cons, hp, if_neg Bool.false_ne_true] at q
      exact q
/-- without a test -/
theorem v_lcA {α : Type} (enc : α → Val) (o : α → Val) {l : List α} {n : Nat} (h : ∀ x ∈ l, ∃ η1, g (enc x) η0 = some η1 ∧ All (fe η1) 0 (fun v _ => v = o x) noE) (q : QL (l.map o) n) : All (lcGo η0 g noIf fe (l.map enc)) n QL E :=
  v_lcM enc (fun _ => true) o (fun x hx => let ⟨η1, e, h1⟩ := h x hx; ⟨η1, e, rfl, fun _ => h1⟩) (by rw [List.filter_eq_self.mpr fun _ _ => rfl]; exact q)
theorem v_lc2 {vs vs1 : List Nat} {fl fl1 : EvL} {g1 : Val → Env → Option Env} {ft1 : Env → T Bool} {n : Nat} {Q : Val → Nat → Prop} (h : All (fl η) n (fun ds k => ds.length ≤ 1000 ∧ All (lc2Go vs1 (wipeE η vs) g ft fl1 g1 ft1 fe ds) k (fun xs a => Q (.lst xs) a) E) E) : All (eLc2 vs vs1 fl g ft fl1 g1 ft1 fe η) n Q E :=
  all_bind.mpr (all_mono h (fun ds k ⟨h1, h⟩ => by rw [if_pos h1]; exact all_bind.mpr (all_mono h (fun _ _ h => h) fun _ _ h => h)) fun _ _ h => h)
/-- two clauses, no tests: o x of each item -/
theorem v_lc2A {α : Type} {vs1 : List Nat} {fl1 : EvL} {g1 : Val → Env → Option Env} (enc : α → Val) (o : α → List Val) : ∀ {l : List α} {n : Nat} {QL : List Val → Nat → Prop},
    (∀ x ∈ l, ∃ η1, g (enc x) η0 = some η1 ∧ All (fl1 η1) 0 (fun ds k => ds.length ≤ 1000 ∧ All (lcGo (wipeE η1 vs1) g1 noIf fe ds) k (fun ys _ => ys = o x) noE) noE) → QL (l.flatMap o) n → All (lc2Go vs1 η0 g noIf fl1 g1 noIf fe (l.map enc)) n QL E
  | [], n, QL, _, q => q
  | x :: r, n, QL, h, q => by
    obtain ⟨η1, e1, h1⟩ := h x List.mem_cons_self
    refine all_bind.mpr (v_o ⟨η1, e1, all_hd.mpr (of_ret (show noIf η1 = .ret true from rfl) ?_)⟩)
    rw [if_pos rfl]
    have key : ∃ ds, fl1 η1 = .ret ds ∧ ds.length ≤ 1000 ∧ lcGo (wipeE η1 vs1) g1 noIf fe ds = .ret (o x) := by
      generalize fl1 η1 = t at h1
      cases t with
      | ret ds => exact ⟨ds, rfl, h1.1, ret_of h1.2⟩
      | err e => exact h1.elim
      | draw b k => obtain ⟨a, e, _⟩ := h1; cases e
      | bad => exact h1.elim
    obtain ⟨ds, k1, k2, k3⟩ := key
    refine all_hd.mpr (of_ret k1 ?_)
    show All (if ds.length ≤ 1000 then _ else _) n QL E
    rw [if_pos k2]
    refine all_bind.mpr (of_ret k3 (all_bind.mpr (v_lc2A enc o (fun y hy => h y (List.mem_cons_of_mem _ hy)) ?_)))
    rw [List.flatMap_cons] at q
    exact q
/-- while: P by the measure -/
theorem v_loops (P : Nat → Env → Nat → Prop) : ∀ (N : Nat) (η : Env) (n : Nat), P N η n →
    (∀ N η a, P N η a → 0 < N ∧ All (ft η) a (fun b k => (b = true → All (m η) k (fun o c => match o with | .nx η2 => P (N - 1) η2 c | .ct η2 => P (N - 1) η2 c | .bk η2 => QO (.nx η2) c | o => QO o c) E) ∧ (b = false → QO (.nx η) k)) (fun e k => QO (.ex e η) k)) → All (loops ft m N η) n QO E
  | 0, η, n, h, st => absurd (st 0 η n h).1 (Nat.lt_irrefl _)
  | N + 1, η, n, h, st => by
    refine all_hd.mpr (all_mono (st _ η n h).2 (fun b k ⟨h1, h2⟩ => ?_) fun _ _ h => h)
    cases b with
    | false => exact h2 rfl
    | true =>
      rw [if_pos rfl]
      refine all_bind.mpr (all_mono (h1 rfl) (fun o c q => ?_) fun _ _ h => h)
      cases o with
      | nx η2 => exact v_loops P N η2 c q st
      | ct η2 => exact v_loops P N η2 c q st
      | bk η2 => exact q
      | rt d => exact q
      | ex e η2 => exact q
/-! try -/
def onEx (i : Nat) (m2 : Sm) (Q : Out → Nat → Prop) : Out → Nat → Prop
  | .ex e η', k => All (m2 (η'.set i (some (.exc e.C e.f e.x)))) k (fun o c => match o with
    | .nx η2 => Q (.nx (η2.set i none)) c
    | .bk η2 => Q (.bk (η2.set i none)) c
    | .ct η2 => Q (.ct (η2.set i none)) c
    | .rt d => Q (.rt d) c
    | .ex _ _ => False) (fun _ _ => False)
  | o, k => Q o k
def endEx (i : Nat) (Q : Out → Nat → Prop) : Out → Nat → Prop
  | .nx η2, c => Q (.nx (η2.set i none)) c
  | .bk η2, c => Q (.bk (η2.set i none)) c
  | .ct η2, c => Q (.ct (η2.set i none)) c
  | .rt d, c => Q (.rt d) c
  | .ex _ _, _ => False
theorem v_exH {i : Nat} {m2 : Sm} {Q : Out → Nat → Prop} {e : Err} {η' : Env} {k : Nat} (h : All (m2 (η'.set i (some (.exc e.C e.f e.x)))) k (endEx i Q) (fun _ _ => False)) : onEx i m2 Q (.ex e η') k := all_mono h (fun o c h => by cases o <;> exact h) fun _ _ h => h
theorem v_exN {i : Nat} {m2 : Sm} {Q : Out → Nat → Prop} {η' : Env} {k : Nat} (h : Q (.nx η') k) : onEx i m2 Q (.nx η') k := h
theorem v_exR {i : Nat} {m2 : Sm} {Q : Out → Nat → Prop} {d : Val} {k : Nat} (h : Q (.rt d) k) : onEx i m2 Q (.rt d) k := h
theorem v_endN {i : Nat} {Q : Out → Nat → Prop} {η' : Env} {k : Nat} (h : Q (.nx (η'.set i none)) k) : endEx i Q (.nx η') k := h
theorem v_endR {i : Nat} {Q : Out → Nat → Prop} {d : Val} {k : Nat} (h : Q (.rt d) k) : endEx i Q (.rt d) k := h
theorem v_try {i : Nat} {m2 : Sm} {n : Nat} (h : All (m η) n (onEx i m2 QO) (fun _ _ => False)) : All (mTry i m m2 η) n QO E :=
  all_hd.mpr (all_mono h (fun o k h => by
    cases o with
    | ex e η' =>
      refine all_hd.mpr (all_mono h (fun o c q => ?_) fun _ _ q => q.elim)
      cases o with
      | ex e' η2 => exact q.elim
      | nx η2 => exact q
      | bk η2 => exact q
      | ct η2 => exact q
      | rt d => exact q
    | nx η2 => exact h
    | bk η2 => exact h
    | ct η2 => exact h
    | rt d => exact h) fun _ _ h => h.elim)
end
end EV
end
section
set_option Elab.async false
set_option linter.all false
set_option maxRecDepth 100000
set_option maxHeartbeats 4000000
/-! Data that can be shown and compared. -/
namespace EV
open PySem PySem.Spec PyProof.Rows L2 XK
structure OkD (d : PyData) (k W : Nat) : Prop where
  lay : d.canLay0 = true
  dep : d.depth ≤ k
  wt : d.weight ≤ W
  sh : d.showable = true
  sm : d.intsShort 13 = true
theorem OkD.shw {d : PyData} {k W : Nat} (h : OkD d k W) (hk : k ≤ 40) (hW : W ≤ 1048576) : d.shown.length ≤ sizeLine := by
  have h1 := h.dep
  have h2 := h.wt
  refine Nat.le_trans (shown_le13 (d := d) ?_ h.sm) (by rw [sizeLine_eq]; decide)
  unfold PyData.layable0
  rw [h.lay, decide_eq_true (by omega : d.depth ≤ 64), decide_eq_true (by omega : d.weight ≤ 2 ^ 20)]
  rfl
theorem OkD.mono {d : PyData} {k k' W W' : Nat} (h : OkD d k W) (h1 : k ≤ k') (h2 : W ≤ W') : OkD d k' W' := ⟨h.lay, Nat.le_trans h.dep h1, Nat.le_trans h.wt h2, h.sh, h.sm⟩
theorem ok_items {k W : Nat} : ∀ {ds : List PyData}, (∀ d ∈ ds, OkD d k W) → PyData.canLayAll0 ds = true ∧ PyData.depthAll ds ≤ k ∧ PyData.weightAll ds ≤ ds.length * (W + 1) ∧ PyData.showableAll ds = true ∧ PyData.intsShortAll 13 ds = true
  | [], _ => ⟨rfl, Nat.zero_le _, Nat.zero_le _, rfl, rfl⟩
  | d :: r, h => by
    obtain ⟨h1, h2, h3, h4, h5⟩ := ok_items fun e he => h e (List.mem_cons_of_mem _ he)
    obtain ⟨g1, g2, g3, g4, g5⟩ := h d List.mem_cons_self
    refine ⟨?_, ?_, ?_, ?_, ?_⟩
    · rw [PyData.canLayAll0, g1, h1]
      rfl
    · rw [PyData.depthAll]
      exact Nat.max_le.mpr ⟨g2, h2⟩
    · rw [PyData.weightAll, List.length_cons, Nat.succ_mul]
      omega
    · rw [PyData.showableAll, g4, h4]
      rfl
    · rw [PyData.intsShortAll, g5, h5]
      rfl
theorem ok_tuple {k W : Nat} {ds : List PyData} (h : ∀ d ∈ ds, OkD d k W) : OkD (.tuple ds) (k + 1) (ds.length * (W + 1)) := by
  obtain ⟨h1, h2, h3, h4, h5⟩ := ok_items h
  exact ⟨by rw [PyData.canLay0]; exact h1, by rw [PyData.depth]; omega, by rw [PyData.weight]; exact h3, by rw [PyData.showable]; exact h4, by rw [PyData.intsShort]; exact h5⟩
theorem ok_list {k W : Nat} {ds : List PyData} (h : ∀ d ∈ ds, OkD d k W) : OkD (.list ds) (k + 1) (ds.length * (W + 1)) := by
  obtain ⟨h1, h2, h3, h4, h5⟩ := ok_items h
  exact ⟨by rw [PyData.canLay0]; exact h1, by rw [PyData.depth]; omega, by rw [PyData.weight]; exact h3, by rw [PyData.showable]; exact h4, by rw [PyData.intsShort]; exact h5⟩
theorem ok_str {z : Str} (h : ∀ c ∈ z.cps.toList, c < 1114112) : OkD (.str z) 0 z.length :=
  ⟨by rw [PyData.canLay0, PyData.strOk, ← Array.all_toList, List.all_eq_true]; exact fun c hc => decide_eq_true (h c hc), Nat.le_refl _, Nat.le_refl _, rfl, rfl⟩
theorem ok_none : OkD .none 0 0 := ⟨rfl, Nat.le_refl _, Nat.le_refl _, rfl, rfl⟩
theorem ok_bool (b : Bool) : OkD (.bool b) 0 0 := ⟨rfl, Nat.le_refl _, Nat.le_refl _, rfl, rfl⟩
theorem ok_small : ∀ n : Nat, n < 64 → PyData.weight (.int (n : Nat)) ≤ 8 ∧ PyData.showable (.int (n : Nat)) = true ∧ PyData.intsShort 13 (.int (n : Nat)) = true := by decide +kernel
theorem ok_smallN : ∀ n : Nat, n < 64 → PyData.weight (.int (-(n : Nat))) ≤ 8 ∧ PyData.showable (.int (-(n : Nat))) = true ∧ PyData.intsShort 13 (.int (-(n : Nat))) = true := by decide +kernel
theorem ok_int {i : Int} (h0 : -64 < i) (h1 : i < 64) : OkD (.int i) 0 8 := by
  by_cases h : 0 ≤ i
  · obtain ⟨n, rfl⟩ := Int.eq_ofNat_of_zero_le h
    obtain ⟨a, b, c⟩ := ok_small n (by omega)
    exact ⟨rfl, Nat.le_refl _, a, b, c⟩
  · have e : i = -((-i).toNat : Nat) := by omega
    rw [e]
    obtain ⟨a, b, c⟩ := ok_smallN (-i).toNat (by omega)
    exact ⟨rfl, Nat.le_refl _, a, b, c⟩
theorem toDs_map : ∀ xs : List Val, toDs xs = xs.map toD
  | [] => rfl
  | x :: xs => by rw [toDs, toDs_map xs]; rfl
structure OkV (d : Val) (k W : Nat) : Prop where
  pl : plain d = true
  ok : OkD (toD d) k W
theorem OkV.mono {d : Val} {k k' W W' : Nat} (h : OkV d k W) (h1 : k ≤ k') (h2 : W ≤ W') : OkV d k' W' := ⟨h.pl, h.ok.mono h1 h2⟩
theorem plains_of : ∀ {xs : List Val}, (∀ x ∈ xs, plain x = true) → plains xs = true
  | [], _ => rfl
  | x :: xs, h => by rw [plains, h x List.mem_cons_self, plains_of fun y hy => h y (List.mem_cons_of_mem _ hy)]; rfl
theorem ov_tup {k W : Nat} {ds : List Val} (h : ∀ d ∈ ds, OkV d k W) : OkV (.tup ds) (k + 1) (ds.length * (W + 1)) := by
  refine ⟨plains_of fun d hd => (h d hd).pl, ?_⟩
  have := ok_tuple (k := k) (W := W) (ds := ds.map toD) fun d hd => by
    obtain ⟨e, he, rfl⟩ := List.mem_map.mp hd
    exact (h e he).ok
  rw [List.length_map] at this
  show OkD (.tuple (toDs ds)) _ _
  rw [toDs_map]
  exact this
theorem ov_lst {k W : Nat} {ds : List Val} (h : ∀ d ∈ ds, OkV d k W) : OkV (.lst ds) (k + 1) (ds.length * (W + 1)) := by
  refine ⟨plains_of fun d hd => (h d hd).pl, ?_⟩
  have := ok_list (k := k) (W := W) (ds := ds.map toD) fun d hd => by
    obtain ⟨e, he, rfl⟩ := List.mem_map.mp hd
    exact (h e he).ok
  rw [List.length_map] at this
  show OkD (.list (toDs ds)) _ _
  rw [toDs_map]
  exact this
theorem ov_str {z : Str} (h : ∀ c ∈ z.cps.toList, c < 1114112) : OkV (.str z) 0 z.length := ⟨rfl, ok_str h⟩
theorem ov_txt {w : List Nat} (h : ∀ c ∈ w, c < 1114112) : OkV (.str (txtOf w)) 0 w.length := ⟨rfl, by have := ok_str (z := txtOf w) h; rw [txt_len] at this; exact this⟩
theorem ov_int {i : Int} (h0 : -64 < i) (h1 : i < 64) : OkV (.int i) 0 8 := ⟨rfl, ok_int h0 h1⟩
theorem ov_none : OkV .non 0 0 := ⟨rfl, ok_none⟩
theorem ov_bool (b : Bool) : OkV (.bl b) 0 0 := ⟨rfl, ok_bool b⟩
theorem OkV.repr {d : Val} {k W : Nat} (h : OkV d k W) (hk : k ≤ 40) (hW : W ≤ 1048576) : okR d = true := by
  have h1 := h.ok.dep
  unfold okR
  rw [plain_z h.pl, h.ok.sh, decide_eq_true (by omega : (toD d).depth ≤ 40), decide_eq_true (h.ok.shw hk hW)]
  rfl
theorem vRepr_ok {d : Val} (h : okR d = true) : vRepr [d] = some (.str (toD d).shown) := by
  show (if okR d = true then some (Val.str (toD d).shown) else none) = _
  rw [if_pos h]
theorem OkV.shown {d : Val} {k W : Nat} (h : OkV d k W) (hk : k ≤ 40) (hW : W ≤ 1048576) : vRepr [d] = some (.str (toD d).shown) := vRepr_ok (h.repr hk hW)
theorem OkV.ne {d : Val} {k W : Nat} (h : OkV d k W) (hk : k ≤ 60) : neG d d = some (.bl false) := neG_self h.pl (Nat.le_trans h.ok.dep hk)
theorem OkV.eq {d : Val} {k W : Nat} (h : OkV d k W) (hk : k ≤ 60) : eqG d d = some (.bl true) := eqG_self h.pl (Nat.le_trans h.ok.dep hk)
end EV
end
section
set_option Elab.async false
set_option linter.all false
set_option maxRecDepth 100000
set_option maxHeartbeats 4000000
/-! The walk again, over a word that is never unfolded; its steps, found by their heads. -/
namespace EV
open PySem PySem.Spec PyProof.Rows L2 XK
@[irreducible] def Al {α : Type} (t : T α) (n : Nat) (Q : α → Nat → Prop) (E : Err → Nat → Prop) : Prop := All t n Q E
theorem al_eq {α : Type} {t : T α} {n : Nat} {Q : α → Nat → Prop} {E : Err → Nat → Prop} : Al t n Q E = All t n Q E := by unfold Al; rfl
theorem al_of {α : Type} {t : T α} {n : Nat} {Q : α → Nat → Prop} {E : Err → Nat → Prop} (h : All t n Q E) : Al t n Q E := by rw [al_eq]; exact h
theorem of_al {α : Type} {t : T α} {n : Nat} {Q : α → Nat → Prop} {E : Err → Nat → Prop} (h : Al t n Q E) : All t n Q E := by rw [← al_eq]; exact h
theorem al_mono {α : Type} {t : T α} {n : Nat} {Q Q' : α → Nat → Prop} {E E' : Err → Nat → Prop} (h : Al t n Q E) (a : ∀ a m, Q a m → Q' a m) (e : ∀ e m, E e m → E' e m) : Al t n Q' E' := al_of (all_mono (of_al h) a e)
theorem al_ret {α : Type} {t : T α} {v : α} {n : Nat} {Q : α → Nat → Prop} {E : Err → Nat → Prop} (e : t = .ret v) (q : Q v n) : Al t n Q E := al_of (of_ret e q)
theorem ret_al {α : Type} {t : T α} {v : α} (h : Al t 0 (fun x _ => x = v) (fun _ _ => False)) : t = .ret v := ret_of (of_al h)
def onN (m' : Sm) (Q : Out → Nat → Prop) (E : Err → Nat → Prop) : Out → Nat → Prop
  | .nx η', k => Al (m' η') k Q E
  | o, k => Q o k
def onX (i : Nat) (m2 : Sm) (Q : Out → Nat → Prop) : Out → Nat → Prop
  | .ex e η', k => Al (m2 (η'.set i (some (.exc e.C e.f e.x)))) k (endEx i Q) (fun _ _ => False)
  | o, k => Q o k
def outA (Q : Val → Nat → Prop) (E : Err → Nat → Prop) : Out → Nat → Prop := outD Q E
section
variable {η η0 : Env} {n : Nat} {f fa fb fc : Ev} {ft gt : Env → T Bool} {fs ks fl : EvL} {g : Val → Env → Option Env} {Q : Val → Nat → Prop} {QB : Bool → Nat → Prop} {QL : List Val → Nat → Prop} {QO : Out → Nat → Prop} {QP : Option Int → Nat → Prop} {E : Err → Nat → Prop} {i j : Nat} {d : Val} {m m' : Sm} {lo hi : EvO} {vs : List Nat} {fe : Ev}
theorem u_bin {g : Val → Val → Option Val} (h : Al (fa η) n (fun x a => Al (fb η) a (fun y b => ∃ o, g x y = some o ∧ Q o b) E) E) : Al (eBin g fa fb η) n Q E := by
  simp only [al_eq] at *
  first | exact v_bin ‹_› | (refine v_bin ?_ ?_ <;> assumption) | (apply v_bin <;> assumption)
theorem u_chain {g g' : Val → Val → Option Val} (h : Al (fa η) n (fun x a => Al (fb η) a (fun y b => ∃ z, g x y = some (.bl z) ∧ (z = true → Al (fc η) b (fun w k => ∃ o, g' y w = some o ∧ Q o k) E) ∧ (z = false → Q (.bl false) b)) E) E) : Al (eChain g g' fa fb fc η) n Q E := by
  simp only [al_eq] at *
  first | exact v_chain ‹_› | (refine v_chain ?_ ?_ <;> assumption) | (apply v_chain <;> assumption)
theorem u_and (h : Al (fa η) n (fun x a => ∃ z, x = .bl z ∧ (z = true → Al (fb η) a Q E) ∧ (z = false → Q (.bl false) a)) E) : Al (eAnd fa fb η) n Q E := by
  simp only [al_eq] at *
  first | exact v_and ‹_› | (refine v_and ?_ ?_ <;> assumption) | (apply v_and <;> assumption)
theorem u_or (h : Al (fa η) n (fun x a => ∃ z, x = .bl z ∧ (z = false → Al (fb η) a Q E) ∧ (z = true → Q (.bl true) a)) E) : Al (eOr fa fb η) n Q E := by
  simp only [al_eq] at *
  first | exact v_or ‹_› | (refine v_or ?_ ?_ <;> assumption) | (apply v_or <;> assumption)
theorem u_not (h : Al (fa η) n (fun x a => ∃ z, x = .bl z ∧ Q (.bl (!z)) a) E) : Al (eNot fa η) n Q E := by
  simp only [al_eq] at *
  first | exact v_not ‹_› | (refine v_not ?_ ?_ <;> assumption) | (apply v_not <;> assumption)
theorem u_if (h : Al (ft η) n (fun k a => (k = true → Al (fa η) a Q E) ∧ (k = false → Al (fb η) a Q E)) E) : Al (eIf ft fa fb η) n Q E := by
  simp only [al_eq] at *
  first | exact v_if ‹_› | (refine v_if ?_ ?_ <;> assumption) | (apply v_if <;> assumption)
theorem u_neg (h : Al (fa η) n (fun x a => ∃ z, x = .int z ∧ Q (.int (-z)) a) E) : Al (eNeg fa η) n Q E := by
  simp only [al_eq] at *
  first | exact v_neg ‹_› | (refine v_neg ?_ ?_ <;> assumption) | (apply v_neg <;> assumption)
theorem u_tst (h : Al (f η) n (fun x a => ∃ b, x = .bl b ∧ QB b a) E) : Al (tst f η) n QB E := by
  simp only [al_eq] at *
  first | exact v_tst ‹_› | (refine v_tst ?_ ?_ <;> assumption) | (apply v_tst <;> assumption)
theorem u_tru (h : Al (f η) n (fun x a => ∃ b, truth x = some b ∧ QB b a) E) : Al (tru f η) n QB E := by
  simp only [al_eq] at *
  first | exact v_tru ‹_› | (refine v_tru ?_ ?_ <;> assumption) | (apply v_tru <;> assumption)
theorem u_tNo (h : Al (ft η) n (fun k a => QB (!k) a) E) : Al (tNo ft η) n QB E := by
  simp only [al_eq] at *
  first | exact v_tNo ‹_› | (refine v_tNo ?_ ?_ <;> assumption) | (apply v_tNo <;> assumption)
theorem u_both (h : Al (ft η) n (fun k a => (k = true → Al (gt η) a QB E) ∧ (k = false → QB false a)) E) : Al (tBoth ft gt η) n QB E := by
  simp only [al_eq] at *
  first | exact v_both ‹_› | (refine v_both ?_ ?_ <;> assumption) | (apply v_both <;> assumption)
theorem u_some (h : Al (ft η) n (fun k a => (k = false → Al (gt η) a QB E) ∧ (k = true → QB true a)) E) : Al (tSome ft gt η) n QB E := by
  simp only [al_eq] at *
  first | exact v_some ‹_› | (refine v_some ?_ ?_ <;> assumption) | (apply v_some <;> assumption)
theorem u_noIf (h : QB true n) : Al (noIf η) n QB E := by
  simp only [al_eq] at *
  first | exact v_noIf ‹_› | (refine v_noIf ?_ ?_ <;> assumption) | (apply v_noIf <;> assumption)
theorem u_nil (h : QL [] n) : Al (aNil η) n QL E := by
  simp only [al_eq] at *
  first | exact v_nil ‹_› | (refine v_nil ?_ ?_ <;> assumption) | (apply v_nil <;> assumption)
theorem u_cons (h : Al (f η) n (fun x a => Al (fs η) a (fun xs b => QL (x :: xs) b) E) E) : Al (aCons f fs η) n QL E := by
  simp only [al_eq] at *
  first | exact v_cons ‹_› | (refine v_cons ?_ ?_ <;> assumption) | (apply v_cons <;> assumption)
theorem u_tup (h : Al (fs η) n (fun xs a => xs.length ≤ 1000 ∧ Q (.tup xs) a) E) : Al (eTup fs η) n Q E := by
  simp only [al_eq] at *
  first | exact v_tup ‹_› | (refine v_tup ?_ ?_ <;> assumption) | (apply v_tup <;> assumption)
theorem u_lst (h : Al (fs η) n (fun xs a => xs.length ≤ 1000 ∧ Q (.lst xs) a) E) : Al (eLst fs η) n Q E := by
  simp only [al_eq] at *
  first | exact v_lst ‹_› | (refine v_lst ?_ ?_ <;> assumption) | (apply v_lst <;> assumption)
theorem u_B {g : List Val → Option Val} (h : Al (fs η) n (fun xs a => ∃ o, g xs = some o ∧ Q o a) E) : Al (eB g fs η) n Q E := by
  simp only [al_eq] at *
  first | exact v_B ‹_› | (refine v_B ?_ ?_ <;> assumption) | (apply v_B <;> assumption)
theorem u_call {F : List Val → R} (h : Al (fs η) n (fun xs a => Al (ofR (F xs)) a Q E) E) : Al (eCall F fs η) n Q E := by
  simp only [al_eq] at *
  first | exact v_call ‹_› | (refine v_call ?_ ?_ <;> assumption) | (apply v_call <;> assumption)
theorem u_callK {F : List Val → R} {ix : List Nat} (h : Al (fs η) n (fun xs a => Al (ks η) a (fun ys b => Al (ofR (F (gK i j ix xs ys))) b Q E) E) E) : Al (eCallK i j ix F fs ks η) n Q E := by
  simp only [al_eq] at *
  first | exact v_callK ‹_› | (refine v_callK ?_ ?_ <;> assumption) | (apply v_callK <;> assumption)
theorem u_callD {F : List Val → R} {des : List Val} (h : Al (fs η) n (fun xs a => Al (ofR (F (xs ++ des))) a Q E) E) : Al (eCallD des F fs η) n Q E := by
  simp only [al_eq] at *
  first | exact v_callD ‹_› | (refine v_callD ?_ ?_ <;> assumption) | (apply v_callD <;> assumption)
theorem u_ret {r : R} (e : r = .ret d) (q : Q d n) : Al (ofR r) n Q E := by
  simp only [al_eq] at *
  first | exact v_ret ‹_› | (refine v_ret ?_ ?_ <;> assumption) | (apply v_ret <;> assumption)
theorem u_err {r : R} {x : Err} (e : r = .err x) (q : E x n) : Al (ofR r) n Q E := by
  simp only [al_eq] at *
  first | exact v_err ‹_› | (refine v_err ?_ ?_ <;> assumption) | (apply v_err <;> assumption)
theorem u_draw {F : List Val → T Val} (h : Al (fs η) n (fun xs a => Al (F xs) a Q (fun _ _ => False)) E) : Al (eDraw F fs η) n Q E := by
  simp only [al_eq] at *
  first | exact v_draw ‹_› | (refine v_draw ?_ ?_ <;> assumption) | (apply v_draw <;> assumption)
theorem u_next {b : Int} {a : Nat} (e : n = a + 1) (h0 : 0 < b) (h1 : b < 1073741824) (h : ∀ v, 0 ≤ v → v < b → Q (.int v) a) : Al (nextF [.int b]) n Q E := by
  simp only [al_eq] at *
  first | exact v_next ‹_› | (refine v_next ?_ ?_ <;> assumption) | (apply v_next <;> assumption)
theorem u_isT {t : String} (h : Al (f η) n (fun x a => ∃ b, isT t x = some b ∧ Q (.bl b) a) E) : Al (eIsT t f η) n Q E := by
  simp only [al_eq] at *
  first | exact v_isT ‹_› | (refine v_isT ?_ ?_ <;> assumption) | (apply v_isT <;> assumption)
theorem u_mNil (h : QO (.nx η) n) : Al (mNil η) n QO E := by
  simp only [al_eq] at *
  first | exact v_mNil ‹_› | (refine v_mNil ?_ ?_ <;> assumption) | (apply v_mNil <;> assumption)
theorem u_set (h : Al (f η) n (fun d k => QO (.nx (η.set i (some d))) k) (fun e k => QO (.ex e η) k)) : Al (mSet i f η) n QO E := by
  simp only [al_eq] at *
  first | exact v_set ‹_› | (refine v_set ?_ ?_ <;> assumption) | (apply v_set <;> assumption)
theorem u_mIf (h : Al (ft η) n (fun k a => (k = true → Al (m η) a QO E) ∧ (k = false → Al (m' η) a QO E)) (fun e k => QO (.ex e η) k)) : Al (mIf ft m m' η) n QO E := by
  simp only [al_eq] at *
  first | exact v_mIf ‹_› | (refine v_mIf ?_ ?_ <;> assumption) | (apply v_mIf <;> assumption)
theorem u_mRet (h : Al (f η) n (fun d k => QO (.rt d) k) E) : Al (mRet f η) n QO E := by
  simp only [al_eq] at *
  first | exact v_mRet ‹_› | (refine v_mRet ?_ ?_ <;> assumption) | (apply v_mRet <;> assumption)
theorem u_expr (h : Al (f η) n (fun d k => QO (.nx η) k) (fun e k => QO (.ex e η) k)) : Al (mExpr f η) n QO E := by
  simp only [al_eq] at *
  first | exact v_expr ‹_› | (refine v_expr ?_ ?_ <;> assumption) | (apply v_expr <;> assumption)
theorem u_raise {x fn : Str} (h : Al (f η) n (fun d k => QO (.ex ⟨x, fn, d⟩ η) k) (fun e k => QO (.ex e η) k)) : Al (mRaise x fn f η) n QO E := by
  simp only [al_eq] at *
  first | exact v_raise ‹_› | (refine v_raise ?_ ?_ <;> assumption) | (apply v_raise <;> assumption)
theorem u_asg {g : Val → Env → Option Env} (h : Al (f η) n (fun d k => ∃ η', g d η = some η' ∧ QO (.nx η') k) (fun e k => QO (.ex e η) k)) : Al (mAsg g f η) n QO E := by
  simp only [al_eq] at *
  first | exact v_asg ‹_› | (refine v_asg ?_ ?_ <;> assumption) | (apply v_asg <;> assumption)
theorem u_pars {is : List Nat} (h : Al (fs η) n (fun ds k => QO (.nx (setA η is ds)) k) (fun e k => QO (.ex e η) k)) : Al (mPars is fs η) n QO E := by
  simp only [al_eq] at *
  first | exact v_pars ‹_› | (refine v_pars ?_ ?_ <;> assumption) | (apply v_pars <;> assumption)
theorem u_turns {g : Val → Env → Option Env} (P : Nat → Env → Nat → Prop) : ∀ (ds : List Val) (i : Nat) (η : Env) (n : Nat), P i η n →
    (∀ k d η a, ds[k]? = some d → P (i + k) η a → ∃ η1, g d η = some η1 ∧ Al (m η1) a (fun o b => match o with | .nx η2 => P (i + k + 1) η2 b | .ct η2 => P (i + k + 1) η2 b | .bk η2 => QO (.nx η2) b | o => QO o b) E) →
    (∀ η a, P (i + ds.length) η a → QO (.nx η) a) → Al (turns g m ds η) n QO E := by
  simp only [al_eq] at *
  first | exact v_turns ‹_› | (refine v_turns ?_ ?_ <;> assumption) | (apply v_turns <;> assumption)
theorem u_for {g : Val → Env → Option Env} {fl : EvL} (h : Al (fl η) n (fun ds k => Al (turns g m ds η) k QO E) (fun e k => QO (.ex e η) k)) : Al (mFor g fl m η) n QO E := by
  simp only [al_eq] at *
  first | exact v_for ‹_› | (refine v_for ?_ ?_ <;> assumption) | (apply v_for <;> assumption)
theorem u_iOf (h : Al (f η) n (fun d k => ∃ l, itemsOf d = some l ∧ QL l k) E) : Al (iOf f η) n QL E := by
  simp only [al_eq] at *
  first | exact v_iOf ‹_› | (refine v_iOf ?_ ?_ <;> assumption) | (apply v_iOf <;> assumption)
theorem u_iEnuT (h : Al (fs η) n (fun xs k => ∃ ds, xs = [.tup ds] ∧ QL (pairs ds) k) E) : Al (iEnuT fs η) n QL E := by
  simp only [al_eq] at *
  first | exact v_iEnuT ‹_› | (refine v_iEnuT ?_ ?_ <;> assumption) | (apply v_iEnuT <;> assumption)
theorem u_iEnuL (h : Al (fs η) n (fun xs k => ∃ ds, xs = [.lst ds] ∧ QL (pairs ds) k) E) : Al (iEnuL fs η) n QL E := by
  simp only [al_eq] at *
  first | exact v_iEnuL ‹_› | (refine v_iEnuL ?_ ?_ <;> assumption) | (apply v_iEnuL <;> assumption)
theorem u_iEnuS (h : Al (fs η) n (fun xs k => ∃ z : Str, xs = [.str z] ∧ QL (pairs (z.cps.toList.map fun k => .str ⟨#[k]⟩)) k) E) : Al (iEnuS fs η) n QL E := by
  simp only [al_eq] at *
  first | exact v_iEnuS ‹_› | (refine v_iEnuS ?_ ?_ <;> assumption) | (apply v_iEnuS <;> assumption)
theorem u_iRng (h : Al (fs η) n (fun xs k => ∃ j : Int, xs = [.int j] ∧ (j ≤ 1000000 ∧ -1000000 ≤ j) ∧ QL ((List.range j.toNat).map fun k => .int (k : Nat)) k) E) : Al (iRng fs η) n QL E := by
  simp only [al_eq] at *
  first | exact v_iRng ‹_› | (refine v_iRng ?_ ?_ <;> assumption) | (apply v_iRng <;> assumption)
theorem u_iRngB (h : Al (fs η) n (fun xs k => ∃ i j : Int, xs = [.int i, .int j] ∧ ((j ≤ 1000000 ∧ -1000000 ≤ j) ∧ i ≤ 1000000 ∧ -1000000 ≤ i) ∧ QL ((List.range (j - i).toNat).map fun k => .int (i + (k : Nat))) k) E) : Al (iRngB fs η) n QL E := by
  simp only [al_eq] at *
  first | exact v_iRngB ‹_› | (refine v_iRngB ?_ ?_ <;> assumption) | (apply v_iRngB <;> assumption)
theorem u_zip2L (h : Al (fs η) n (fun xs k => ∃ a b, (xs = [.lst a, .lst b] ∨ xs = [.tup a, .tup b]) ∧ QL (zips a b) k) E) : Al (iZip2 fs η) n QL E := by
  simp only [al_eq] at *
  first | exact v_zip2L ‹_› | (refine v_zip2L ?_ ?_ <;> assumption) | (apply v_zip2L <;> assumption)
theorem u_lc (h : Al (fl η) n (fun ds k => ds.length ≤ 1000000 ∧ Al (lcGo (wipeE η vs) g ft fe ds) k (fun xs a => Q (.lst xs) a) E) E) : Al (eLc vs fl g ft fe η) n Q E := by
  simp only [al_eq] at *
  first | exact v_lc ‹_› | (refine v_lc ?_ ?_ <;> assumption) | (apply v_lc <;> assumption)
theorem u_lcGo (keep : Val → Option Val) : ∀ {ds : List Val} {n : Nat} {QL : List Val → Nat → Prop} {E : Err → Nat → Prop},
    (∀ d ∈ ds, ∃ η1 b, g d η0 = some η1 ∧ ft η1 = .ret b ∧ (b = true → ∃ o, fe η1 = .ret o ∧ keep d = some o) ∧ (b = false → keep d = none)) → QL (ds.filterMap keep) n → Al (lcGo η0 g ft fe ds) n QL E := by
  simp only [al_eq] at *
  first | exact v_lcGo ‹_› | (refine v_lcGo ?_ ?_ <;> assumption) | (apply v_lcGo <;> assumption)
theorem u_lcGoP (P : List Val → List Val → Nat → Prop) : ∀ {ds acc : List Val} {n : Nat} {QL : List Val → Nat → Prop} {E : Err → Nat → Prop}, P acc ds n →
    (∀ acc d r a, P acc (d :: r) a → ∃ η1, g d η0 = some η1 ∧ Al (ft η1) a (fun b k => (b = true → Al (fe η1) k (fun o c => P (acc ++ [o]) r c) (fun _ _ => False)) ∧ (b = false → P acc r k)) (fun _ _ => False)) →
    (∀ acc' a, P acc' [] a → ∀ xs, acc' = acc ++ xs → QL xs a) → Al (lcGo η0 g ft fe ds) n QL E := by
  simp only [al_eq] at *
  first | exact v_lcGoP ‹_› | (refine v_lcGoP ?_ ?_ <;> assumption) | (apply v_lcGoP <;> assumption)
theorem u_join {z : Str} (h : Al (f η) n (fun d k => ∃ o, vJoin z d = some o ∧ Q o k) E) : Al (eJoin z f η) n Q E := by
  simp only [al_eq] at *
  first | exact v_join ‹_› | (refine v_join ?_ ?_ <;> assumption) | (apply v_join <;> assumption)
theorem u_list (h : Al (f η) n (fun d k => ∃ l, vList d = some l ∧ Q (.lst l) k) E) : Al (eList f η) n Q E := by
  simp only [al_eq] at *
  first | exact v_list ‹_› | (refine v_list ?_ ?_ <;> assumption) | (apply v_list <;> assumption)
theorem u_dict (h : Al (f η) n (fun d k => ∃ l, vDict d = some l ∧ Q (.dic l) k) E) : Al (eDict f η) n Q E := by
  simp only [al_eq] at *
  first | exact v_dict ‹_› | (refine v_dict ?_ ?_ <;> assumption) | (apply v_dict <;> assumption)
theorem u_dic0 (h : Q (.dic []) n) : Al (eDic0 η) n Q E := by
  simp only [al_eq] at *
  first | exact v_dic0 ‹_› | (refine v_dic0 ?_ ?_ <;> assumption) | (apply v_dic0 <;> assumption)
theorem u_lrg (h : Al (f η) n (fun d k => ∃ j : Int, d = .int j ∧ (0 ≤ j ∧ j ≤ 1000000) ∧ Q (.lst ((List.range j.toNat).map fun (k : Nat) => .int k)) k) E) : Al (eLrg f η) n Q E := by
  simp only [al_eq] at *
  first | exact v_lrg ‹_› | (refine v_lrg ?_ ?_ <;> assumption) | (apply v_lrg <;> assumption)
theorem u_oNo (h : QP none n) : Al (oNo η) n QP E := by
  simp only [al_eq] at *
  first | exact v_oNo ‹_› | (refine v_oNo ?_ ?_ <;> assumption) | (apply v_oNo <;> assumption)
theorem u_oSo (h : Al (f η) n (fun d k => ∃ i, d = .int i ∧ QP (some i) k) E) : Al (oSo f η) n QP E := by
  simp only [al_eq] at *
  first | exact v_oSo ‹_› | (refine v_oSo ?_ ?_ <;> assumption) | (apply v_oSo <;> assumption)
theorem u_sl (h : Al (f η) n (fun d a => Al (lo η) a (fun l b => Al (hi η) b (fun u k => ∃ o, vSl d l u = some o ∧ Q o k) E) E) E) : Al (eSl f lo hi η) n Q E := by
  simp only [al_eq] at *
  first | exact v_sl ‹_› | (refine v_sl ?_ ?_ <;> assumption) | (apply v_sl <;> assumption)
theorem u_ask {k : Str → Str → Int} (h : Al (fa η) n (fun x a => ∃ z, x = .str z ∧ Al (fb η) a (fun y b => ∃ u, y = .str u ∧ Q (.int (k z u)) b) E) E) : Al (eAsk k fa fb η) n Q E := by
  simp only [al_eq] at *
  first | exact v_ask ‹_› | (refine v_ask ?_ ?_ <;> assumption) | (apply v_ask <;> assumption)
theorem u_isX {sub : Str → Bool} (h : Al (f η) n (fun d k => ∃ o, vIsX sub [d] = some o ∧ Q o k) E) : Al (eIsX sub f η) n Q E := by
  simp only [al_eq] at *
  first | exact v_isX ‹_› | (refine v_isX ?_ ?_ <;> assumption) | (apply v_isX <;> assumption)
theorem u_fld {ns : List Str} {nm : Str} (h : Al (f η) n (fun d k => ∃ C x, d = .exc C nm x ∧ C ∈ ns ∧ Q x k) E) : Al (eFld ns nm f η) n Q E := by
  simp only [al_eq] at *
  first | exact v_fld ‹_› | (refine v_fld ?_ ?_ <;> assumption) | (apply v_fld <;> assumption)
theorem u_revS (h : Al (f η) n (fun d k => ∃ z, d = .str z ∧ z.length ≤ 1000000 ∧ Q (.str (revS z)) k) E) : Al (eRevS f η) n Q E := by
  simp only [al_eq] at *
  first | exact v_revS ‹_› | (refine v_revS ?_ ?_ <;> assumption) | (apply v_revS <;> assumption)
theorem u_revT (h : Al (f η) n (fun d k => ∃ z, d = .tup z ∧ z.length ≤ 1000000 ∧ Q (.tup z.reverse) k) E) : Al (eRevT f η) n Q E := by
  simp only [al_eq] at *
  first | exact v_revT ‹_› | (refine v_revT ?_ ?_ <;> assumption) | (apply v_revT <;> assumption)
theorem u_app {xs : List Val} (e1 : η[i]? = some (some (.lst xs))) (h : Al (f η) n (fun d k => xs.length < 1000000 ∧ QO (.nx (η.set i (some (.lst (xs ++ [d]))))) k) (fun e k => QO (.ex e η) k)) : Al (mApp i f η) n QO E := by
  simp only [al_eq] at *
  first | exact v_app ‹_› | (refine v_app ?_ ?_ <;> assumption) | (apply v_app <;> assumption)
theorem u_ext {xs : List Val} (e1 : η[i]? = some (some (.lst xs))) (h : Al (f η) n (fun d k => ∃ zs, d = .lst zs ∧ xs.length + zs.length < 1000000 ∧ QO (.nx (η.set i (some (.lst (xs ++ zs))))) k) (fun e k => QO (.ex e η) k)) : Al (mExt i f η) n QO E := by
  simp only [al_eq] at *
  first | exact v_ext ‹_› | (refine v_ext ?_ ?_ <;> assumption) | (apply v_ext <;> assumption)
theorem u_delSl {xs : List Val} (e1 : η[i]? = some (some (.lst xs))) (h : Al (f η) n (fun d k => ∃ a, d = .int a ∧ QO (.nx (η.set i (some (.lst (xs.take (HT.sIx xs.length 0 (some a))))))) k) (fun e k => QO (.ex e η) k)) : Al (mDelSl i f η) n QO E := by
  simp only [al_eq] at *
  first | exact v_delSl ‹_› | (refine v_delSl ?_ ?_ <;> assumption) | (apply v_delSl <;> assumption)
theorem u_store {xs : List Val} (e1 : η[i]? = some (some (.lst xs))) (h : Al (f η) n (fun d k => Al (fb η) k (fun y b => ∃ (q : Int) (u : Nat), y = .int q ∧ ixN xs.length q = some u ∧ QO (.nx (η.set i (some (.lst (xs.set u d))))) b) (fun e k => QO (.ex e η) k)) (fun e k => QO (.ex e η) k)) : Al (mStore i fb f η) n QO E := by
  simp only [al_eq] at *
  first | exact v_store ‹_› | (refine v_store ?_ ?_ <;> assumption) | (apply v_store <;> assumption)
theorem u_turnsM {α : Type} (enc : α → Val) (P : Nat → Env → Nat → Prop) (l : List α) {n : Nat} (h0 : P 0 η n)
    (st : ∀ k x η a, l[k]? = some x → P k η a → ∃ η1, g (enc x) η = some η1 ∧ Al (m η1) a (fun o b => match o with | .nx η2 => P (k + 1) η2 b | .ct η2 => P (k + 1) η2 b | .bk η2 => QO (.nx η2) b | o => QO o b) E)
    (fin : ∀ η a, P l.length η a → QO (.nx η) a) : Al (turns g m (l.map enc) η) n QO E := by
  simp only [al_eq] at *
  first | exact v_turnsM ‹_› | (refine v_turnsM ?_ ?_ <;> assumption) | (apply v_turnsM <;> assumption)
theorem u_lcM {α : Type} (enc : α → Val) (p : α → Bool) (o : α → Val) : ∀ {l : List α} {n : Nat} {QL : List Val → Nat → Prop},
    (∀ x ∈ l, ∃ η1, g (enc x) η0 = some η1 ∧ Al (ft η1) 0 (fun b _ => b = p x) noE ∧ (p x = true → Al (fe η1) 0 (fun v _ => v = o x) noE)) → QL ((l.filter p).map o) n → Al (lcGo η0 g ft fe (l.map enc)) n QL E := by
  simp only [al_eq] at *
  first | exact v_lcM ‹_› | (refine v_lcM ?_ ?_ <;> assumption) | (apply v_lcM <;> assumption)
theorem u_lcA {α : Type} (enc : α → Val) (o : α → Val) {l : List α} {n : Nat} (h : ∀ x ∈ l, ∃ η1, g (enc x) η0 = some η1 ∧ Al (fe η1) 0 (fun v _ => v = o x) noE) (q : QL (l.map o) n) : Al (lcGo η0 g noIf fe (l.map enc)) n QL E := by
  simp only [al_eq] at *
  first | exact v_lcA ‹_› | (refine v_lcA ?_ ?_ <;> assumption) | (apply v_lcA <;> assumption)
theorem u_lc2 {vs vs1 : List Nat} {fl fl1 : EvL} {g1 : Val → Env → Option Env} {ft1 : Env → T Bool} {n : Nat} {Q : Val → Nat → Prop} (h : Al (fl η) n (fun ds k => ds.length ≤ 1000 ∧ Al (lc2Go vs1 (wipeE η vs) g ft fl1 g1 ft1 fe ds) k (fun xs a => Q (.lst xs) a) E) E) : Al (eLc2 vs vs1 fl g ft fl1 g1 ft1 fe η) n Q E := by
  simp only [al_eq] at *
  first | exact v_lc2 ‹_› | (refine v_lc2 ?_ ?_ <;> assumption) | (apply v_lc2 <;> assumption)
theorem u_lc2A {α : Type} {vs1 : List Nat} {fl1 : EvL} {g1 : Val → Env → Option Env} (enc : α → Val) (o : α → List Val) : ∀ {l : List α} {n : Nat} {QL : List Val → Nat → Prop},
    (∀ x ∈ l, ∃ η1, g (enc x) η0 = some η1 ∧ Al (fl1 η1) 0 (fun ds k => ds.length ≤ 1000 ∧ Al (lcGo (wipeE η1 vs1) g1 noIf fe ds) k (fun ys _ => ys = o x) noE) noE) → QL (l.flatMap o) n → Al (lc2Go vs1 η0 g noIf fl1 g1 noIf fe (l.map enc)) n QL E := by
  simp only [al_eq] at *
  first | exact v_lc2A ‹_› | (refine v_lc2A ?_ ?_ <;> assumption) | (apply v_lc2A <;> assumption)
theorem u_loops (P : Nat → Env → Nat → Prop) : ∀ (N : Nat) (η : Env) (n : Nat), P N η n →
    (∀ N η a, P N η a → 0 < N ∧ Al (ft η) a (fun b k => (b = true → Al (m η) k (fun o c => match o with | .nx η2 => P (N - 1) η2 c | .ct η2 => P (N - 1) η2 c | .bk η2 => QO (.nx η2) c | o => QO o c) E) ∧ (b = false → QO (.nx η) k)) (fun e k => QO (.ex e η) k)) → Al (loops ft m N η) n QO E := by
  simp only [al_eq] at *
  first | exact v_loops ‹_› | (refine v_loops ?_ ?_ <;> assumption) | (apply v_loops <;> assumption)
theorem u_seq (h : Al (m η) n (onN m' QO E) E) : Al (mSeq m m' η) n QO E := al_of (v_seq (all_mono (of_al h) (fun o k h => by
  cases o with
  | nx η' => exact of_al h
  | _ => exact h) fun _ _ h => h))
theorem u_nx {η' : Env} (h : Al (m' η') n QO E) : onN m' QO E (.nx η') n := h
theorem u_try {m2 : Sm} (h : Al (m η) n (onX i m2 QO) (fun _ _ => False)) : Al (mTry i m m2 η) n QO E := al_of (v_try (all_mono (of_al h) (fun o k h => by
  cases o with
  | ex e η' => exact v_exH (of_al h)
  | _ => exact h) fun _ _ h => h))
/-- a slot read, a slot written, slots wiped -/
class GetE (η : Env) (i : Nat) (d : outParam Val) : Prop where
  get : η[i]? = some (some d)
instance get_0 (d : Val) (l : Env) : GetE (some d :: l) 0 d := ⟨rfl⟩
instance get_s (x : Option Val) (l : Env) (i : Nat) (d : Val) [h : GetE l i d] : GetE (x :: l) (i + 1) d := ⟨h.get⟩
class SetE (η : Env) (i : Nat) (F : outParam (Option Val → Env)) : Prop where
  set : ∀ v, η.set i v = F v
instance set_0 (x : Option Val) (l : Env) : SetE (x :: l) 0 (fun v => v :: l) := ⟨fun _ => rfl⟩
instance set_s (x : Option Val) (l : Env) (i : Nat) (F : Option Val → Env) [h : SetE l i F] : SetE (x :: l) (i + 1) (fun v => x :: F v) := ⟨fun v => by rw [List.set_cons_succ, h.set]⟩
class WipeE (η : Env) (vs : List Nat) (η' : outParam Env) : Prop where
  wipe : wipeE η vs = η'
instance wipe_0 (η : Env) : WipeE η [] η := ⟨rfl⟩
instance wipe_s (η η1 : Env) (v : Nat) (vs : List Nat) (F : Option Val → Env) [h : WipeE η vs η1] [g : SetE η1 v F] : WipeE η (v :: vs) (F none) := ⟨by show (wipeE η vs).set v none = _; rw [h.wipe, g.set]⟩
instance set_w (η η1 : Env) (vs : List Nat) (i : Nat) (F : Option Val → Env) [h : WipeE η vs η1] [g : SetE η1 i F] : SetE (wipeE η vs) i F := ⟨fun v => by rw [h.wipe, g.set]⟩
class GoE (g : Val → Env → Option Env) (d : Val) (η : Env) (η' : outParam Env) : Prop where
  go : g d η = some η'
class GsE (gs : List Val → Env → Option Env) (ds : List Val) (η : Env) (n : Nat) (η' : outParam Env) : Prop where
  go : gs ds η = some η'
  len : ds.length = n
instance go_n (i : Nat) (d : Val) (η : Env) (F : Option Val → Env) [h : SetE η i F] : GoE (gN i) d η (F (some d)) := ⟨congrArg some (h.set _)⟩
instance go_t (n : Nat) (gs : List Val → Env → Option Env) (ds : List Val) (η η' : Env) [h : GsE gs ds η n η'] : GoE (gT n gs) (.tup ds) η η' := ⟨by show (if ds.length = n then gs ds η else none) = _; rw [if_pos h.len, h.go]⟩
instance gs_0 (η : Env) : GsE gsNil [] η 0 η := ⟨rfl, rfl⟩
instance gs_s (g : Val → Env → Option Env) (gs : List Val → Env → Option Env) (d : Val) (ds : List Val) (n : Nat) (η η1 η' : Env) [h : GoE g d η η1] [k : GsE gs ds η1 n η'] : GsE (gsCons g gs) (d :: ds) η (n + 1) η' := ⟨by show (g d η).bind (fun η' => gs ds η') = _; rw [h.go]; exact k.go, by rw [List.length_cons, k.len]⟩
theorem gx {g : Val → Env → Option Env} {d : Val} {η η1 : Env} {P : Env → Prop} [h : GoE g d η η1] (q : P η1) : ∃ η', g d η = some η' ∧ P η' := ⟨_, h.go, q⟩
theorem u_set' {F : Option Val → Env} [g : SetE η i F] (h : Al (f η) n (fun d k => QO (.nx (F (some d))) k) (fun e k => QO (.ex e η) k)) : Al (mSet i f η) n QO E :=
  u_set (al_mono h (fun d k q => by rw [g.set]; exact q) fun _ _ q => q)
theorem u_vr' [g : GetE η i d] (q : Q d n) : Al (ofO (η[i]?.join)) n Q E := al_of (by rw [g.get]; exact q)
theorem u_lc' [w : WipeE η vs η0] (h : Al (fl η) n (fun ds k => ds.length ≤ 1000000 ∧ Al (lcGo η0 g ft fe ds) k (fun xs a => Q (.lst xs) a) E) E) : Al (eLc vs fl g ft fe η) n Q E := u_lc (by rw [w.wipe]; exact h)
theorem u_lc2' {vs1 : List Nat} {fl1 : EvL} {g1 : Val → Env → Option Env} {ft1 : Env → T Bool} [w : WipeE η vs η0] (h : Al (fl η) n (fun ds k => ds.length ≤ 1000 ∧ Al (lc2Go vs1 η0 g ft fl1 g1 ft1 fe ds) k (fun xs a => Q (.lst xs) a) E) E) : Al (eLc2 vs vs1 fl g ft fl1 g1 ft1 fe η) n Q E := u_lc2 (by rw [w.wipe]; exact h)
theorem u_app' {xs : List Val} {F : Option Val → Env} [a : GetE η i (.lst xs)] [g : SetE η i F] (h : Al (f η) n (fun d k => xs.length < 1000000 ∧ QO (.nx (F (some (.lst (xs ++ [d]))))) k) (fun e k => QO (.ex e η) k)) : Al (mApp i f η) n QO E :=
  u_app a.get (al_mono h (fun d k ⟨q1, q⟩ => ⟨q1, by rw [g.set]; exact q⟩) fun _ _ q => q)
theorem u_ext' {xs : List Val} {F : Option Val → Env} [a : GetE η i (.lst xs)] [g : SetE η i F] (h : Al (f η) n (fun d k => ∃ zs, d = .lst zs ∧ xs.length + zs.length < 1000000 ∧ QO (.nx (F (some (.lst (xs ++ zs))))) k) (fun e k => QO (.ex e η) k)) : Al (mExt i f η) n QO E :=
  u_ext a.get (al_mono h (fun d k ⟨zs, e, q1, q⟩ => ⟨zs, e, q1, by rw [g.set]; exact q⟩) fun _ _ q => q)
theorem u_delSl' {xs : List Val} {F : Option Val → Env} [a : GetE η i (.lst xs)] [g : SetE η i F] (h : Al (f η) n (fun d k => ∃ a, d = .int a ∧ QO (.nx (F (some (.lst (xs.take (HT.sIx xs.length 0 (some a))))))) k) (fun e k => QO (.ex e η) k)) : Al (mDelSl i f η) n QO E :=
  u_delSl a.get (al_mono h (fun d k ⟨b, e, q⟩ => ⟨b, e, by rw [g.set]; exact q⟩) fun _ _ q => q)
theorem u_store' {xs : List Val} {F : Option Val → Env} [a : GetE η i (.lst xs)] [g : SetE η i F] (h : Al (f η) n (fun d k => Al (fb η) k (fun y b => ∃ (q : Int) (u : Nat), y = .int q ∧ ixN xs.length q = some u ∧ QO (.nx (F (some (.lst (xs.set u d))))) b) (fun e k => QO (.ex e η) k)) (fun e k => QO (.ex e η) k)) : Al (mStore i fb f η) n QO E :=
  u_store a.get (al_mono h (fun d k q => al_mono q (fun y b ⟨j, u, e1, e2, q⟩ => ⟨j, u, e1, e2, by rw [g.set]; exact q⟩) fun _ _ q => q) fun _ _ q => q)
theorem u_exH' {m2 : Sm} {e : Err} {k : Nat} {F : Option Val → Env} [g : SetE η i F] (h : Al (m2 (F (some (.exc e.C e.f e.x)))) k (endEx i QO) (fun _ _ => False)) : onX i m2 QO (.ex e η) k := by show Al (m2 (η.set i _)) k _ _; rw [g.set]; exact h
theorem u_endN' {k : Nat} {F : Option Val → Env} [g : SetE η i F] (h : QO (.nx (F none)) k) : endEx i QO (.nx η) k := by show QO (.nx (η.set i none)) k; rw [g.set]; exact h
class SetsE (η : Env) (is : List Nat) (ds : List Val) (η' : outParam Env) : Prop where
  set : setA η is ds = η'
instance sets_0 (η : Env) : SetsE η [] [] η := ⟨rfl⟩
instance sets_s (η η' : Env) (i : Nat) (is : List Nat) (d : Val) (ds : List Val) (F : Option Val → Env) [h : SetE η i F] [k : SetsE (F (some d)) is ds η'] : SetsE η (i :: is) (d :: ds) η' := ⟨by rw [setA, h.set]; exact k.set⟩
theorem u_nxA {is : List Nat} {ds : List Val} {η' : Env} [h : SetsE η is ds η'] (q : Al (m' η') n QO E) : onN m' QO E (.nx (setA η is ds)) n := by rw [h.set]; exact q
theorem cutD_neg {α : Type} (w : List α) {k : Nat} (h : 0 < k) : cutD w (some (-(k : Int))) none = w.drop (w.length - k) := by
  unfold cutD
  have e : HT.sIx w.length 0 (some (-(k : Int))) = w.length - k := by
    show (if -(k : Int) < 0 then (-(k : Int) + (w.length : Int)).toNat else min (-(k : Int)).toNat w.length) = _
    rw [if_pos (by omega)]
    omega
  rw [e]
  exact List.take_of_length_le (by rw [List.length_drop]; show _ ≤ w.length - _; omega)
theorem cut_neg {α : Type} (w : List α) {k : Nat} (h : 0 < k) : HT.sIx w.length 0 (some (-(k : Int))) = w.length - k := by
  show (if -(k : Int) < 0 then (-(k : Int) + (w.length : Int)).toNat else min (-(k : Int)).toNat w.length) = _
  rw [if_pos (by omega)]
  omega
theorem count_txt (w : List Nat) (k : Nat) : Txt.count (txtOf w) (txtOf [k]) = ((w.count k : Nat) : Int) := by
  have h : ∀ l : List Nat, PyProof.Rows.cnt k l = (l.count k : Int) := fun l => by
    induction l with
    | nil => rfl
    | cons a r ih =>
      rw [PyProof.Rows.cnt_cons, ih, List.count_cons]
      by_cases e : a = k <;> simp [e] <;> omega
  have := PyProof.Rows.count_cnt (txtOf w) k
  rw [h] at this
  exact this
theorem vMax_nat (a b : Nat) : vMax [.int (a : Nat), .int (b : Nat)] = some (.int ((max a b : Nat) : Int)) := by
  show some (Val.int (if (b : Int) > (a : Int) then (b : Int) else (a : Int))) = _
  congr 2
  split <;> omega
theorem go_ex {P : Val → Prop} {t : T Out} {r : R} (go : ∀ d, Al t 0 (isRt d) (fun _ _ => False) → r = .ret d) (h : Al t 0 (fun o _ => match o with | .rt d => P d | .nx _ => P .non | _ => False) (fun _ _ => False)) : ∃ d, P d ∧ r = .ret d := by
  have h := of_al h
  cases t with
  | ret o =>
    cases o with
    | rt d => exact ⟨d, h, go d (al_of rfl)⟩
    | nx η => exact ⟨.non, h, go .non (al_of rfl)⟩
    | ex e η => exact h.elim
    | bk η => exact h.elim
    | ct η => exact h.elim
  | err e => exact h.elim
  | draw b k =>
    obtain ⟨a, e, _⟩ := h
    cases e
  | bad => exact h.elim
def vPow : Val → Val → Option Val := fun d e => match d, e with | .int i, .int j => if okPow i j = true then some (.int (i ^ j.toNat)) else none | _, _ => none
theorem d_pow {X : Cx} {c : Ct} {EE : L2.St → XK} {a b : PySem.Expr} {ga gb : Ev} {pos : Pos} (ha : PE X a (tW c EE ga)) (hb : PE X b (tW c EE gb)) : PE X (.BinOp a .Pow b pos) (tE c EE (eBin vPow ga gb)) := d_bin op_pow (sem_iiC (gi := fun i j => .int (i ^ j.toNat)) (fun i j h => by
  unfold okPow at h
  rw [Bool.and_eq_true, Bool.and_eq_true, Bool.and_eq_true, decide_eq_true_iff, decide_eq_true_iff, decide_eq_true_iff, decide_eq_true_iff] at h
  exact ⟨by omega, by omega, by omega⟩) fun _ _ _ => .int _) ha hb

class WP (P : Prop) (P' : outParam Prop) : Prop where
  imp : P' → P
instance wu_bin {g : Val → Val → Option Val}  : WP (Al (eBin g fa fb η) n Q E) (Al (fa η) n (fun x a => Al (fb η) a (fun y b => ∃ o, g x y = some o ∧ Q o b) E) E) := ⟨u_bin⟩
instance wu_chain {g g' : Val → Val → Option Val}  : WP (Al (eChain g g' fa fb fc η) n Q E) (Al (fa η) n (fun x a => Al (fb η) a (fun y b => ∃ z, g x y = some (.bl z) ∧ (z = true → Al (fc η) b (fun w k => ∃ o, g' y w = some o ∧ Q o k) E) ∧ (z = false → Q (.bl false) b)) E) E) := ⟨u_chain⟩
instance wu_and  : WP (Al (eAnd fa fb η) n Q E) (Al (fa η) n (fun x a => ∃ z, x = .bl z ∧ (z = true → Al (fb η) a Q E) ∧ (z = false → Q (.bl false) a)) E) := ⟨u_and⟩
instance wu_or  : WP (Al (eOr fa fb η) n Q E) (Al (fa η) n (fun x a => ∃ z, x = .bl z ∧ (z = false → Al (fb η) a Q E) ∧ (z = true → Q (.bl true) a)) E) := ⟨u_or⟩
instance wu_not  : WP (Al (eNot fa η) n Q E) (Al (fa η) n (fun x a => ∃ z, x = .bl z ∧ Q (.bl (!z)) a) E) := ⟨u_not⟩
instance wu_if  : WP (Al (eIf ft fa fb η) n Q E) (Al (ft η) n (fun k a => (k = true → Al (fa η) a Q E) ∧ (k = false → Al (fb η) a Q E)) E) := ⟨u_if⟩
instance wu_neg  : WP (Al (eNeg fa η) n Q E) (Al (fa η) n (fun x a => ∃ z, x = .int z ∧ Q (.int (-z)) a) E) := ⟨u_neg⟩
instance wu_tst  : WP (Al (tst f η) n QB E) (Al (f η) n (fun x a => ∃ b, x = .bl b ∧ QB b a) E) := ⟨u_tst⟩
instance wu_tru  : WP (Al (tru f η) n QB E) (Al (f η) n (fun x a => ∃ b, truth x = some b ∧ QB b a) E) := ⟨u_tru⟩
instance wu_tNo  : WP (Al (tNo ft η) n QB E) (Al (ft η) n (fun k a => QB (!k) a) E) := ⟨u_tNo⟩
instance wu_both  : WP (Al (tBoth ft gt η) n QB E) (Al (ft η) n (fun k a => (k = true → Al (gt η) a QB E) ∧ (k = false → QB false a)) E) := ⟨u_both⟩
instance wu_some  : WP (Al (tSome ft gt η) n QB E) (Al (ft η) n (fun k a => (k = false → Al (gt η) a QB E) ∧ (k = true → QB true a)) E) := ⟨u_some⟩
instance wu_noIf  : WP (Al (noIf η) n QB E) (QB true n) := ⟨u_noIf⟩
instance wu_nil  : WP (Al (aNil η) n QL E) (QL [] n) := ⟨u_nil⟩
instance wu_cons  : WP (Al (aCons f fs η) n QL E) (Al (f η) n (fun x a => Al (fs η) a (fun xs b => QL (x :: xs) b) E) E) := ⟨u_cons⟩
instance wu_tup  : WP (Al (eTup fs η) n Q E) (Al (fs η) n (fun xs a => xs.length ≤ 1000 ∧ Q (.tup xs) a) E) := ⟨u_tup⟩
instance wu_lst  : WP (Al (eLst fs η) n Q E) (Al (fs η) n (fun xs a => xs.length ≤ 1000 ∧ Q (.lst xs) a) E) := ⟨u_lst⟩
instance wu_B {g : List Val → Option Val}  : WP (Al (eB g fs η) n Q E) (Al (fs η) n (fun xs a => ∃ o, g xs = some o ∧ Q o a) E) := ⟨u_B⟩
instance wu_call {F : List Val → R}  : WP (Al (eCall F fs η) n Q E) (Al (fs η) n (fun xs a => Al (ofR (F xs)) a Q E) E) := ⟨u_call⟩
instance wu_callK {F : List Val → R} {ix : List Nat}  : WP (Al (eCallK i j ix F fs ks η) n Q E) (Al (fs η) n (fun xs a => Al (ks η) a (fun ys b => Al (ofR (F (gK i j ix xs ys))) b Q E) E) E) := ⟨u_callK⟩
instance wu_callD {F : List Val → R} {des : List Val}  : WP (Al (eCallD des F fs η) n Q E) (Al (fs η) n (fun xs a => Al (ofR (F (xs ++ des))) a Q E) E) := ⟨u_callD⟩
instance wu_draw {F : List Val → T Val}  : WP (Al (eDraw F fs η) n Q E) (Al (fs η) n (fun xs a => Al (F xs) a Q (fun _ _ => False)) E) := ⟨u_draw⟩
instance wu_isT {t : String}  : WP (Al (eIsT t f η) n Q E) (Al (f η) n (fun x a => ∃ b, isT t x = some b ∧ Q (.bl b) a) E) := ⟨u_isT⟩
instance wu_mNil  : WP (Al (mNil η) n QO E) (QO (.nx η) n) := ⟨u_mNil⟩
instance wu_mIf  : WP (Al (mIf ft m m' η) n QO E) (Al (ft η) n (fun k a => (k = true → Al (m η) a QO E) ∧ (k = false → Al (m' η) a QO E)) (fun e k => QO (.ex e η) k)) := ⟨u_mIf⟩
instance wu_mRet  : WP (Al (mRet f η) n QO E) (Al (f η) n (fun d k => QO (.rt d) k) E) := ⟨u_mRet⟩
instance wu_expr  : WP (Al (mExpr f η) n QO E) (Al (f η) n (fun d k => QO (.nx η) k) (fun e k => QO (.ex e η) k)) := ⟨u_expr⟩
instance wu_raise {x fn : Str}  : WP (Al (mRaise x fn f η) n QO E) (Al (f η) n (fun d k => QO (.ex ⟨x, fn, d⟩ η) k) (fun e k => QO (.ex e η) k)) := ⟨u_raise⟩
instance wu_asg {g : Val → Env → Option Env}  : WP (Al (mAsg g f η) n QO E) (Al (f η) n (fun d k => ∃ η', g d η = some η' ∧ QO (.nx η') k) (fun e k => QO (.ex e η) k)) := ⟨u_asg⟩
instance wu_pars {is : List Nat}  : WP (Al (mPars is fs η) n QO E) (Al (fs η) n (fun ds k => QO (.nx (setA η is ds)) k) (fun e k => QO (.ex e η) k)) := ⟨u_pars⟩
instance wu_for {g : Val → Env → Option Env} {fl : EvL}  : WP (Al (mFor g fl m η) n QO E) (Al (fl η) n (fun ds k => Al (turns g m ds η) k QO E) (fun e k => QO (.ex e η) k)) := ⟨u_for⟩
instance wu_iOf  : WP (Al (iOf f η) n QL E) (Al (f η) n (fun d k => ∃ l, itemsOf d = some l ∧ QL l k) E) := ⟨u_iOf⟩
instance wu_iEnuT  : WP (Al (iEnuT fs η) n QL E) (Al (fs η) n (fun xs k => ∃ ds, xs = [.tup ds] ∧ QL (pairs ds) k) E) := ⟨u_iEnuT⟩
instance wu_iEnuL  : WP (Al (iEnuL fs η) n QL E) (Al (fs η) n (fun xs k => ∃ ds, xs = [.lst ds] ∧ QL (pairs ds) k) E) := ⟨u_iEnuL⟩
instance wu_iEnuS  : WP (Al (iEnuS fs η) n QL E) (Al (fs η) n (fun xs k => ∃ z : Str, xs = [.str z] ∧ QL (pairs (z.cps.toList.map fun k => .str ⟨#[k]⟩)) k) E) := ⟨u_iEnuS⟩
instance wu_iRng  : WP (Al (iRng fs η) n QL E) (Al (fs η) n (fun xs k => ∃ j : Int, xs = [.int j] ∧ (j ≤ 1000000 ∧ -1000000 ≤ j) ∧ QL ((List.range j.toNat).map fun k => .int (k : Nat)) k) E) := ⟨u_iRng⟩
instance wu_iRngB  : WP (Al (iRngB fs η) n QL E) (Al (fs η) n (fun xs k => ∃ i j : Int, xs = [.int i, .int j] ∧ ((j ≤ 1000000 ∧ -1000000 ≤ j) ∧ i ≤ 1000000 ∧ -1000000 ≤ i) ∧ QL ((List.range (j - i).toNat).map fun k => .int (i + (k : Nat))) k) E) := ⟨u_iRngB⟩
instance wu_zip2L  : WP (Al (iZip2 fs η) n QL E) (Al (fs η) n (fun xs k => ∃ a b, (xs = [.lst a, .lst b] ∨ xs = [.tup a, .tup b]) ∧ QL (zips a b) k) E) := ⟨u_zip2L⟩
instance wu_join {z : Str}  : WP (Al (eJoin z f η) n Q E) (Al (f η) n (fun d k => ∃ o, vJoin z d = some o ∧ Q o k) E) := ⟨u_join⟩
instance wu_list  : WP (Al (eList f η) n Q E) (Al (f η) n (fun d k => ∃ l, vList d = some l ∧ Q (.lst l) k) E) := ⟨u_list⟩
instance wu_dict  : WP (Al (eDict f η) n Q E) (Al (f η) n (fun d k => ∃ l, vDict d = some l ∧ Q (.dic l) k) E) := ⟨u_dict⟩
instance wu_dic0  : WP (Al (eDic0 η) n Q E) (Q (.dic []) n) := ⟨u_dic0⟩
instance wu_lrg  : WP (Al (eLrg f η) n Q E) (Al (f η) n (fun d k => ∃ j : Int, d = .int j ∧ (0 ≤ j ∧ j ≤ 1000000) ∧ Q (.lst ((List.range j.toNat).map fun (k : Nat) => .int k)) k) E) := ⟨u_lrg⟩
instance wu_oNo  : WP (Al (oNo η) n QP E) (QP none n) := ⟨u_oNo⟩
instance wu_oSo  : WP (Al (oSo f η) n QP E) (Al (f η) n (fun d k => ∃ i, d = .int i ∧ QP (some i) k) E) := ⟨u_oSo⟩
instance wu_sl  : WP (Al (eSl f lo hi η) n Q E) (Al (f η) n (fun d a => Al (lo η) a (fun l b => Al (hi η) b (fun u k => ∃ o, vSl d l u = some o ∧ Q o k) E) E) E) := ⟨u_sl⟩
instance wu_ask {k : Str → Str → Int}  : WP (Al (eAsk k fa fb η) n Q E) (Al (fa η) n (fun x a => ∃ z, x = .str z ∧ Al (fb η) a (fun y b => ∃ u, y = .str u ∧ Q (.int (k z u)) b) E) E) := ⟨u_ask⟩
instance wu_isX {sub : Str → Bool}  : WP (Al (eIsX sub f η) n Q E) (Al (f η) n (fun d k => ∃ o, vIsX sub [d] = some o ∧ Q o k) E) := ⟨u_isX⟩
instance wu_fld {ns : List Str} {nm : Str}  : WP (Al (eFld ns nm f η) n Q E) (Al (f η) n (fun d k => ∃ C x, d = .exc C nm x ∧ C ∈ ns ∧ Q x k) E) := ⟨u_fld⟩
instance wu_revS  : WP (Al (eRevS f η) n Q E) (Al (f η) n (fun d k => ∃ z, d = .str z ∧ z.length ≤ 1000000 ∧ Q (.str (revS z)) k) E) := ⟨u_revS⟩
instance wu_revT  : WP (Al (eRevT f η) n Q E) (Al (f η) n (fun d k => ∃ z, d = .tup z ∧ z.length ≤ 1000000 ∧ Q (.tup z.reverse) k) E) := ⟨u_revT⟩
instance wu_seq : WP (Al (mSeq m m' η) n QO E) (Al (m η) n (onN m' QO E) E) := ⟨u_seq⟩
instance wu_try {m2 : Sm} : WP (Al (mTry i m m2 η) n QO E) (Al (m η) n (onX i m2 QO) (fun _ _ => False)) := ⟨u_try⟩
instance wu_vr [GetE η i d] : WP (Al (ofO (η[i]?.join)) n Q E) (Q d n) := ⟨u_vr'⟩
instance wu_set {F : Option Val → Env} [SetE η i F] : WP (Al (mSet i f η) n QO E) (Al (f η) n (fun d k => QO (.nx (F (some d))) k) (fun e k => QO (.ex e η) k)) := ⟨u_set'⟩
instance wu_lc [WipeE η vs η0] : WP (Al (eLc vs fl g ft fe η) n Q E) (Al (fl η) n (fun ds k => ds.length ≤ 1000000 ∧ Al (lcGo η0 g ft fe ds) k (fun xs a => Q (.lst xs) a) E) E) := ⟨u_lc'⟩
instance wu_lc2 {vs1 : List Nat} {fl1 : EvL} {g1 : Val → Env → Option Env} {ft1 : Env → T Bool} [WipeE η vs η0] : WP (Al (eLc2 vs vs1 fl g ft fl1 g1 ft1 fe η) n Q E) (Al (fl η) n (fun ds k => ds.length ≤ 1000 ∧ Al (lc2Go vs1 η0 g ft fl1 g1 ft1 fe ds) k (fun xs a => Q (.lst xs) a) E) E) := ⟨u_lc2'⟩
instance wu_app {xs : List Val} {F : Option Val → Env} [GetE η i (.lst xs)] [SetE η i F] : WP (Al (mApp i f η) n QO E) (Al (f η) n (fun d k => xs.length < 1000000 ∧ QO (.nx (F (some (.lst (xs ++ [d]))))) k) (fun e k => QO (.ex e η) k)) := ⟨u_app'⟩
instance wu_ext {xs : List Val} {F : Option Val → Env} [GetE η i (.lst xs)] [SetE η i F] : WP (Al (mExt i f η) n QO E) (Al (f η) n (fun d k => ∃ zs, d = .lst zs ∧ xs.length + zs.length < 1000000 ∧ QO (.nx (F (some (.lst (xs ++ zs))))) k) (fun e k => QO (.ex e η) k)) := ⟨u_ext'⟩
instance wu_delSl {xs : List Val} {F : Option Val → Env} [GetE η i (.lst xs)] [SetE η i F] : WP (Al (mDelSl i f η) n QO E) (Al (f η) n (fun d k => ∃ a, d = .int a ∧ QO (.nx (F (some (.lst (xs.take (HT.sIx xs.length 0 (some a))))))) k) (fun e k => QO (.ex e η) k)) := ⟨u_delSl'⟩
instance wu_store {xs : List Val} {F : Option Val → Env} [GetE η i (.lst xs)] [SetE η i F] : WP (Al (mStore i fb f η) n QO E) (Al (f η) n (fun d k => Al (fb η) k (fun y b => ∃ (q : Int) (u : Nat), y = .int q ∧ ixN xs.length q = some u ∧ QO (.nx (F (some (.lst (xs.set u d))))) b) (fun e k => QO (.ex e η) k)) (fun e k => QO (.ex e η) k)) := ⟨u_store'⟩
instance wu_ret {α : Type} {d : α} {Q : α → Nat → Prop} : WP (Al (T.ret d) n Q E) (Q d n) := ⟨fun h => al_of h⟩
instance wu_nx {η' : Env} : WP (onN m' QO E (.nx η') n) (Al (m' η') n QO E) := ⟨u_nx⟩
instance wu_nrt : WP (onN m' QO E (.rt d) n) (QO (.rt d) n) := ⟨id⟩
instance wu_nex {e : Err} {η' : Env} : WP (onN m' QO E (.ex e η') n) (QO (.ex e η') n) := ⟨id⟩
instance wu_nbk {η' : Env} : WP (onN m' QO E (.bk η') n) (QO (.bk η') n) := ⟨id⟩
instance wu_nct {η' : Env} : WP (onN m' QO E (.ct η') n) (QO (.ct η') n) := ⟨id⟩
instance wu_exH {m2 : Sm} {e : Err} {F : Option Val → Env} [SetE η i F] : WP (onX i m2 QO (.ex e η) n) (Al (m2 (F (some (.exc e.C e.f e.x)))) n (endEx i QO) (fun _ _ => False)) := ⟨u_exH'⟩
instance wu_exN {m2 : Sm} : WP (onX i m2 QO (.nx η) n) (QO (.nx η) n) := ⟨id⟩
instance wu_exR {m2 : Sm} : WP (onX i m2 QO (.rt d) n) (QO (.rt d) n) := ⟨id⟩
instance wu_endN {F : Option Val → Env} [SetE η i F] : WP (endEx i QO (.nx η) n) (QO (.nx (F none)) n) := ⟨u_endN'⟩
instance wu_endR : WP (endEx i QO (.rt d) n) (QO (.rt d) n) := ⟨id⟩
instance (priority := high) wu_nxA {is : List Nat} {ds : List Val} {η' : Env} [SetsE η is ds η'] : WP (onN m' QO E (.nx (setA η is ds)) n) (Al (m' η') n QO E) := ⟨u_nxA⟩

end
end EV
end
section
set_option Elab.async false
set_option linter.all false
set_option maxRecDepth 100000
set_option maxHeartbeats 4000000
/-! all and any of a list of truths; reversed. -/
namespace EV
open PySem PySem.Spec PyProof.Rows L2 XK
def boolsOf : List Val → Option (List Bool)
  | [] => some []
  | .bl i :: r => (boolsOf r).map (i :: ·)
  | _ :: _ => none
section
variable {X : Cx} {c : Ct} {E : L2.St → XK} {tg a : PySem.Expr} {f : Ev} {p pos : Pos}
theorem bools_v {S : Hp} : ∀ {xs : List V} {ds : List Val} {ns : List Bool}, DVs c.K c.cl S xs ds → boolsOf ds = some ns → xs = ns.map V.bl
  | _, _, _, .nil, e => by cases e; rfl
  | _, d :: ds, ns, .cons h1 h2, e => by
    cases h1 with
    | bl i =>
      cases w : boolsOf ds with
      | none => rw [boolsOf, w] at e; cases e
      | some r =>
        rw [boolsOf, w] at e
        cases e
        rw [bools_v h2 w]
        rfl
    | _ => cases e
def vAll : List Val → Option Val
  | [.lst xs] => (boolsOf xs).map fun ns => .bl (ns.all id)
  | _ => none
def vAny : List Val → Option Val
  | [.lst xs] => (boolsOf xs).map fun ns => .bl (ns.any id)
  | _ => none
theorem sem_all : SemN c (rAll c.K) vAll := by
  intro xs H S ds o Q s h hg q
  unfold vAll at hg
  split at hg
  · obtain ⟨v, rfl, hv⟩ := h.one
    obtain ⟨p, vs, rfl, h1, h2⟩ := hv.lst s
    obtain ⟨ns, w, rfl⟩ := Option.map_eq_some_iff.mp hg
    rw [bools_v h2 w] at h1
    exact ⟨p, ns, rfl, h1, q _ H S (Gr.refl s) (.bl _)⟩
  · cases hg
theorem sem_any : SemN c (rAny c.K) vAny := by
  intro xs H S ds o Q s h hg q
  unfold vAny at hg
  split at hg
  · obtain ⟨v, rfl, hv⟩ := h.one
    obtain ⟨p, vs, rfl, h1, h2⟩ := hv.lst s
    obtain ⟨ns, w, rfl⟩ := Option.map_eq_some_iff.mp hg
    rw [bools_v h2 w] at h1
    exact ⟨p, ns, rfl, h1, q _ H S (Gr.refl s) (.bl _)⟩
  · cases hg
/-- str of a truth or of None -/
def vStrBN : List Val → Option Val
  | [.bl b] => some (.str (if b then "True" else "False"))
  | [.non] => some (.str "None")
  | _ => none
/-- str of an int too -/
def vStr1 : List Val → Option Val
  | [.int i] => if i.natAbs.log2 < 1920 then some (.str (toString i)) else none
  | [.bl b] => some (.str (if b then "True" else "False"))
  | [.non] => some (.str "None")
  | _ => none
theorem call_str1 : CallR X (.type "str") (fun xs H Q => (∃ i, xs = [.int i] ∧ i.natAbs.log2 < 1920 ∧ Q (.str (toString i)) H) ∨ rStrBN xs H Q) := CallR.or call_str_int call_strBN
theorem sem_str1 : SemN c (fun xs H Q => (∃ i, xs = [.int i] ∧ i.natAbs.log2 < 1920 ∧ Q (.str (toString i)) H) ∨ rStrBN xs H Q) vStr1 := by
  intro xs H S ds o Q s h hg q
  unfold vStr1 at hg
  split at hg
  · obtain ⟨v, rfl, hv⟩ := h.one
    split at hg
    · rename_i hi
      cases hg
      exact .inl ⟨_, by rw [hv.int], hi, q _ H S (Gr.refl s) (.str _)⟩
    · cases hg
  · obtain ⟨v, rfl, hv⟩ := h.one
    cases hg
    exact .inr (.inl ⟨_, by rw [hv.bl], q _ H S (Gr.refl s) (.str _)⟩)
  · obtain ⟨v, rfl, hv⟩ := h.one
    cases hg
    exact .inr (.inr ⟨by rw [hv.non], q _ H S (Gr.refl s) (.str _)⟩)
  · cases hg
theorem sem_strBN : SemN c rStrBN vStrBN := by
  intro xs H S ds o Q s h hg q
  unfold vStrBN at hg
  split at hg
  · obtain ⟨v, rfl, hv⟩ := h.one
    cases hg
    exact .inl ⟨_, by rw [hv.bl], q _ H S (Gr.refl s) (.str _)⟩
  · obtain ⟨v, rfl, hv⟩ := h.one
    cases hg
    exact .inr ⟨by rw [hv.non], q _ H S (Gr.refl s) (.str _)⟩
  · cases hg
/-! reversed -/
def revOf : Val → Option (List Val)
  | .lst xs => some xs.reverse
  | .tup xs => some xs.reverse
  | _ => none
def iRevF (f : Ev) : EvL := fun η => (f η).bind fun d => ofO (revOf d)
theorem rev_at {α : Type} {l : List α} {i : Nat} {x : α} (e : l.reverse[i]? = some x) : l[l.length - 1 - i]? = some x := by
  obtain ⟨hi, e1⟩ := List.getElem?_eq_some_iff.mp e
  rw [List.length_reverse] at hi
  rw [List.getElem?_reverse hi] at e
  exact e
theorem itok_revL {S : Hp} {p : Addr} {xs : List V} {ds : List Val} (h : SqL c.K S p xs) (hd : DVs c.K c.cl S xs ds) : ItOk c false S (Itv c.K p xs.length) ds.reverse := by
  have hl := hd.len
  refine ⟨fun i H S1 s0 s1 hi => ?_, fun H S1 s0 s1 => ?_, fun i H S1 x H' s0 s1 y d e => ?_⟩
  · rw [List.length_reverse] at hi
    exact ⟨by omega, xs, xs[xs.length - 1 - i]'(by omega), Same.seq (s0.trans s1) h, by simp⟩
  · rw [List.length_reverse]
    show xs.length ≤ ds.length
    omega
  · obtain ⟨rfl, y⟩ := y
    obtain ⟨v, h1, h2⟩ := hd.get (rev_at e)
    have := y xs (Same.seq (s0.trans s1) h)
    rw [hl, h1] at this
    cases this
    exact ⟨S1, Gr.refl s1, h2.mono s0⟩
theorem itok_revT {S : Hp} {p : Addr} {xs : List V} {ds : List Val} (h : SqT c.K S p xs) (hd : DVs c.K c.cl S xs ds) : ItOk c false S (RT.ItvT c.K p xs.length) ds.reverse := by
  have hl := hd.len
  refine ⟨fun i H S1 s0 s1 hi => ?_, fun H S1 s0 s1 => ?_, fun i H S1 x H' s0 s1 y d e => ?_⟩
  · rw [List.length_reverse] at hi
    exact ⟨by omega, xs, xs[xs.length - 1 - i]'(by omega), sqt_same (s0.trans s1) h, by simp⟩
  · rw [List.length_reverse]
    show xs.length ≤ ds.length
    omega
  · obtain ⟨rfl, y⟩ := y
    obtain ⟨v, h1, h2⟩ := hd.get (rev_at e)
    have := y xs (sqt_same (s0.trans s1) h)
    rw [hl, h1] at this
    cases this
    exact ⟨S1, Gr.refl s1, h2.mono s0⟩
theorem i_rev (hK : X.K = c.K) (hg : Gl X "reversed") (hm : X.mg "reversed" = none) (h : PE X a (tE c E f)) (hs : starEach [a] X.env = (false, eval a X.env) :: starEach [] X.env := by rfl) : PI X tg (.Call (.Name "reversed" p) [a] [] pos) (tI c false E (iRevF f)) :=
  pi_imp (RT.pi_revA hg hm h hs) fun σ H R ⟨η, S, n, r, d, al⟩ => ⟨η, S, n, r, d, all_mono (all_bind.mp al) (fun d1 k q v H1 S1 g1 dd h1 => by
    obtain ⟨ds, e, q⟩ := all_ofO.mp q
    have s1 := (r.grow g1).sub
    cases h1 with
    | lst hl hd =>
      cases e
      exact ⟨_, _, rfl, .inl ⟨by rw [hK]; exact Same.seq s1 hl, by rw [hK]; exact q _ H1 S1 g1 dd (itok_revL hl hd)⟩⟩
    | tup hl hd =>
      cases e
      exact ⟨_, _, rfl, .inr ⟨by rw [hK]; exact (hl.mono s1).sq, by rw [hK]; exact q _ H1 S1 g1 dd (itok_revT hl.sq hd)⟩⟩
    | _ => cases e) fun _ _ t => t⟩
/-- reversed of what may be an own list, in an expression -/
theorem i_revW (hK : X.K = c.K) (hg : Gl X "reversed") (hm : X.mg "reversed" = none) (h : PE X a (tW c E f)) (hs : starEach [a] X.env = (false, eval a X.env) :: starEach [] X.env := by rfl) : PI X tg (.Call (.Name "reversed" p) [a] [] pos) (tIc c false E (iRevF f)) :=
  pi_imp (RT.pi_revA hg hm h hs) fun σ H R ⟨η, S, n, r, d, al⟩ => ⟨η, S, n, r, d, all_mono (all_bind.mp al) (fun d1 k q v H1 S1 g1 dd h1 => by
    obtain ⟨ds, e, q⟩ := all_ofO.mp q
    have s1 := (r.grow g1).sub
    have cv : ∀ {J : It}, ItOk c false S1 J ds → ItOkC c false H1 S1 J ds := fun ok => ⟨fun i H2 S2 g hi => ok.go i H2 S2 g.up g.sub hi, fun H2 S2 g => ok.stop H2 S2 g.up g.sub, fun i H2 S2 x H' g y => ok.yld i H2 S2 x H' g.up g.sub y⟩
    rcases h1 with h1 | ⟨p, rfl, o⟩
    · cases h1 with
      | lst hl hd =>
        cases e
        exact ⟨_, _, rfl, .inl ⟨by rw [hK]; exact Same.seq s1 hl, by rw [hK]; exact q _ H1 S1 g1 dd (cv (itok_revL hl hd))⟩⟩
      | tup hl hd =>
        cases e
        exact ⟨_, _, rfl, .inr ⟨by rw [hK]; exact (hl.mono s1).sq, by rw [hK]; exact q _ H1 S1 g1 dd (cv (itok_revT hl.sq hd))⟩⟩
      | _ => cases e
    · obtain ⟨o1, o2, o3, o4⟩ := o
      rcases o4 with ⟨xs, es, rfl, hH, hd⟩ | ⟨kvs, es, rfl, _⟩
      · cases e
        have hl := hd.len
        have at2 : ∀ {H2 S2 : Hp}, Gd c.tb c.dr H1 S1 H2 S2 → SqL c.K H2 p xs := fun g => SqL.of (g.keep p _ (fun q cc e => (o3 q cc e).1) (fun _ z => by cases z) hH)
        have ok : ItOkC c false H1 S1 (Itv c.K p xs.length) es.reverse := by
          refine ⟨fun i H2 S2 g hi => ?_, fun H2 S2 g => ?_, fun i H2 S2 x H' g y d e => ?_⟩
          · rw [List.length_reverse] at hi
            exact ⟨by omega, xs, xs[xs.length - 1 - i]'(by omega), at2 g, by simp⟩
          · rw [List.length_reverse]
            show xs.length ≤ es.length
            omega
          · obtain ⟨rfl, y⟩ := y
            obtain ⟨v, h1, h2⟩ := hd.get (rev_at e)
            have := y xs (at2 g)
            rw [hl, h1] at this
            cases this
            exact ⟨S2, Gr.refl g.sub, h2.mono g.up⟩
        exact ⟨_, xs, rfl, .inl ⟨by rw [hK]; exact SqL.of hH, by rw [hK]; exact q _ H1 S1 g1 dd ok⟩⟩
      · cases e) fun _ _ t => t⟩
end
instance wu_iRev {η : Env} {n : Nat} {f : Ev} {QL : List Val → Nat → Prop} {E : Err → Nat → Prop} : WP (Al (iRevF f η) n QL E) (Al (f η) n (fun d k => ∃ l, revOf d = some l ∧ QL l k) E) := ⟨fun h => al_of (all_bind.mpr (all_mono (of_al h) (fun _ _ h => v_o h) fun _ _ h => h))⟩
/-! try .. except .. return -/
def onR (x : Str) (d : Val) (Q : Out → Nat → Prop) : Out → Nat → Prop
  | .ex e η', k => if e.C = x then Q (.rt d) k else Q (.ex e η') k
  | o, k => Q o k
theorem u_tryRet {x : Str} {d : Val} {m : Sm} {η : Env} {n : Nat} {QO : Out → Nat → Prop} {E : Err → Nat → Prop} (h : Al (m η) n (onR x d QO) (fun _ _ => False)) : Al (mTryRet x d m η) n QO E := al_of (all_hd.mpr (all_mono (of_al h) (fun o k h => by
  cases o with
  | ex e η' =>
    have h : if e.C = x then QO (.rt d) k else QO (.ex e η') k := h
    show All (if e.C = x then T.ret (Out.rt d) else T.ret (Out.ex e η')) k QO E
    split
    · rename_i e; rw [if_pos e] at h; exact h
    · rename_i e; rw [if_neg e] at h; exact h
  | nx η' => exact h
  | bk η' => exact h
  | ct η' => exact h
  | rt d => exact h) fun _ _ h => h.elim))
theorem r_hit {x f : Str} {v d : Val} {Q : Out → Nat → Prop} {η' : Env} {k : Nat} (h : Q (.rt d) k) : onR x d Q (.ex ⟨x, f, v⟩ η') k := by
  show if _ then _ else _
  rw [if_pos rfl]
  exact h
theorem r_miss {x y f : Str} {v d : Val} {Q : Out → Nat → Prop} {η' : Env} {k : Nat} (e : y ≠ x) (h : Q (.ex ⟨y, f, v⟩ η') k) : onR x d Q (.ex ⟨y, f, v⟩ η') k := by
  show if _ then _ else _
  rw [if_neg e]
  exact h
section
variable {x : Str} {d : Val} {m : Sm} {η : Env} {n : Nat} {QO : Out → Nat → Prop} {E : Err → Nat → Prop}
instance wu_tryRet : WP (Al (mTryRet x d m η) n QO E) (Al (m η) n (onR x d QO) (fun _ _ => False)) := ⟨u_tryRet⟩
instance wu_onRn : WP (onR x d QO (.nx η) n) (QO (.nx η) n) := ⟨id⟩
instance wu_onRr {v : Val} : WP (onR x d QO (.rt v) n) (QO (.rt v) n) := ⟨id⟩
end
/-! a def's equation, from its walk over a literal environment: all terms said, so that nothing is run -/
theorem al_run {ds : List Val} {np N n : Nat} {m : Sm} {e : Env} {Q : Val → Nat → Prop} {E : Err → Nat → Prop} (hl : ds.length = np) (he : envD N ds = e) (h : Al (m e) n (outD Q E) E) : Al (runD np N m ds) n Q E := by
  subst he
  exact al_of (run_draw hl (of_al h))
theorem go_run {ds : List Val} {np N : Nat} {m : Sm} {e : Env} {d : Val} (hl : ds.length = np) (he : envP N ds = e) (h : Al (m e) 0 (isRt d) (fun _ _ => False)) : runP np N m ds = .ret d := by
  subst he
  exact run_ret hl (of_al h)
theorem ge_run {ds : List Val} {np N : Nat} {m : Sm} {e : Env} {x : Err} (hl : ds.length = np) (he : envP N ds = e) (h : Al (m e) 0 (isEx x) (fun e _ => e = x)) : runP np N m ds = .err x := by
  subst he
  exact run_err hl (of_al h)
end EV
end
section
set_option Elab.async false
set_option linter.all false
set_option maxRecDepth 100000
set_option maxHeartbeats 4000000
/-! zip of three tuples. -/
namespace EV
open PySem PySem.Spec PyProof.Rows L2 XK
/-- three tuples side by side -/
def Itz3 (K : PySem.W.Frag) (a b c : Addr) (xs ys zs : List V) : It :=
  ⟨fun i H => SqT K H a xs ∧ SqT K H b ys ∧ SqT K H c zs ∧ i < xs.length ∧ i < ys.length ∧ i < zs.length,
    fun i H v H' => ∃ T x y z, v = .ref T ∧ H T = none ∧ H' = upd H T (.tup [x, y, z]) ∧ xs[i]? = some x ∧ ys[i]? = some y ∧ zs[i]? = some z,
    fun i H => SqT K H a xs ∧ SqT K H b ys ∧ SqT K H c zs ∧ i ≤ xs.length ∧ i ≤ ys.length ∧ i ≤ zs.length ∧ (i = xs.length ∨ i = ys.length ∨ i = zs.length)⟩
section
variable {P : Program} {w : World} {K : PySem.W.Frag} {elts : List Expr} {kk : Nat} {tpos : Pos}
theorem turn_z3 (a b c z TI TO i1 i2 i3 : Addr) (xs ys zs : List V) :
    Turn P w K (.Tuple elts kk tpos) (Itz3 K a b c xs ys zs) [z, TI, TO, i1, i2, i3] z (fun i h => (IsZip h z TI TO .none ∧ IsTupOf3 h TI (.ref i1) (.ref i2) (.ref i3) ∧ (∃ u v w, IsTupOf3 h TO u v w) ∧ h.IsTupleIter i1 a i ∧ h.IsTupleIter i2 b i ∧ h.IsTupleIter i3 c i) ∧ ZipSep3 z TI TO i1 i2 i3 [i1, a] [i2, b] [i3, c] ∧ a ≠ i1 ∧ b ≠ i2 ∧ c ≠ i3) where
  mem := by simp
  obj := fun i h st d hd => by
    obtain ⟨⟨hz, hTI, ⟨u, v, w, hTO⟩, ⟨o1, e1, _, d1⟩, ⟨o2, e2, _, d2⟩, ⟨o3, e3, _, d3⟩⟩, _⟩ := st
    have e' : d = z ∨ d = TI ∨ d = TO ∨ d = i1 ∨ d = i2 ∨ d = i3 := by simpa using hd
    rcases e' with q | q | q | q | q | q
    · rw [q]; exact ⟨_, hz, fun v q => nomatch q⟩
    · rw [q]; exact ⟨_, hTI, fun v q => nomatch q⟩
    · rw [q]; exact ⟨_, hTO, fun v q => nomatch q⟩
    · rw [q]; exact ⟨o1, e1, fun v q => by rw [d1] at q; cases q⟩
    · rw [q]; exact ⟨o2, e2, fun v q => by rw [d2] at q; cases q⟩
    · rw [q]; exact ⟨o3, e3, fun v q => by rw [d3] at q; cases q⟩
  keep := fun i h h' st k => by
    obtain ⟨⟨hz, hTI, ⟨u, v, w, hTO⟩, h1, h2, h3⟩, r⟩ := st
    exact ⟨⟨k z (by simp) _ hz, k TI (by simp) _ hTI, ⟨u, v, w, k TO (by simp) _ hTO⟩, h1.at fun o q => k i1 (by simp) o q, h2.at fun o q => k i2 (by simp) o q, h3.at fun o q => k i3 (by simp) o q⟩, r⟩
  item := by
    intro X hP hw hK hc i pins s σ H E I hf st hg
    subst hP hw hK
    obtain ⟨⟨hz, hTI, ⟨u0, v0, w0, hTO⟩, h1, h2, h3⟩, sep, n1, n2, n3⟩ := st
    obtain ⟨hx, hy, hw, l1, l2, l3⟩ := hg
    obtain ⟨its, rv, p, _⟩ := I.tuple hx
    obtain ⟨its2, rv2, p2, _⟩ := I.tuple hy
    obtain ⟨its3, rv3, p3, _⟩ := I.tuple hw
    have D1 := Draws.tuple (prog := X.prog) (w := X.w) (A := X.A.in1) (I.ok.hd hc) i1 a n1 its.toArray
    have D2 := Draws.tuple (prog := X.prog) (w := X.w) (A := X.A.in1) (I.ok.hd hc) i2 b n2 its2.toArray
    have D3 := Draws.tuple (prog := X.prog) (w := X.w) (A := X.A.in1) (I.ok.hd hc) i3 c n3 its3.toArray
    have q1 := rv.length
    have q2 := rv2.length
    have q3 := rv3.length
    have hzl : z < s.heap.objs.size := Heap.lt_size hz
    refine wpAny_pyNext_zipD3_item sep D1 D2 D3 hz hTI hTO ⟨h1, p⟩ ⟨h2, p2⟩ ⟨h3, p3⟩ (by simp; omega) (by simp; omega) (by simp; omega) fun x1 x2 x3 h' tk y1 y2 y3 b1 b2 d1 d2 d3 b5 b6 hk => ?_
    refine ⟨_, rfl, wpAny_letOwnedTupleGo_zip (s := { s with heap := h', toks := tk }) b1 fun h'' z'' sb => ?_⟩
    have ex : xs[i]? = some xs[i] := by simp [l1]
    have ey : ys[i]? = some ys[i] := by simp [l2]
    have ez : zs[i]? = some zs[i] := by simp [l3]
    obtain ⟨u1, g1, ru1⟩ := rv.get ex
    obtain ⟨u2, g2, ru2⟩ := rv2.get ey
    obtain ⟨u3, g3, ru3⟩ := rv3.get ez
    have t1 : its[i]? = some x1 := by simpa using y1
    have t2 : its2[i]? = some x2 := by simpa using y2
    have t3 : its3[i]? = some x3 := by simpa using y3
    rw [g1] at t1
    rw [g2] at t2
    rw [g3] at t3
    cases t1
    cases t2
    cases t3
    have hT2 : h''.get? s.heap.objs.size = some { cls := .type "tuple", data := .seq #[x1, x2, x3] } := (sb.2 _ (Nat.ne_of_gt hzl)).trans b5
    have new : ObjOk X.prog X.w (upd H s.heap.objs.size (.tup [xs[i], ys[i], zs[i]])) h'' s.heap.objs.size (.tup [xs[i], ys[i], zs[i]]) :=
      ⟨by show 3 ≤ sizeLine; decide, [x1, x2, x3], .cons ru1 (.cons ru2 (.cons ru3 .nil)), ⟨_, hT2, rfl, _, rfl⟩⟩
    have I1 : Inv X pins σ (upd H s.heap.objs.size (.tup [xs[i], ys[i], zs[i]])) { s with heap := h'', toks := tk } :=
      I.turnedNew (ch := [z, TI, TO, i1, i2, i3]) (fun c o hb q => (sb.2 c (fun q' => hb (by simp [q']))).trans (hk c o (fun q' => hb (by simp [q'])) (fun q' => hb (by simp [q'])) (fun q' => hb (by simp [q'])) (fun q' => hb (by simp [q'])) (fun q' => hb (by simp [q'])) q)) hf (Nat.le_refl _) new
    have ov : ∀ {b : Addr} {o : Obj}, b ≠ z → h'.get? b = some o → h''.get? b = some o := fun nb q => (sb.2 _ nb).trans q
    have m1 : i1 ≠ z := fun e => sep.zf1 (by simp [e])
    have m2 : i2 ≠ z := fun e => sep.zf2 (by simp [e])
    have m3 : i3 ≠ z := fun e => sep.zf3 (by simp [e])
    refine ⟨.ref s.heap.objs.size, _, I1, rfl, ⟨_, _, _, _, rfl, I.hok.fresh (Nat.le_refl _), rfl, ex, ey, ez⟩, ⟨⟨z'', ?_, ⟨x1, x2, x3, ov sep.TOz b2⟩, d1.1.at fun o q => ov m1 q, d2.1.at fun o q => ov m2 q, d3.1.at fun o q => ov m3 q⟩, sep, n1, n2, n3⟩, fun d hd => ?_⟩
    · exact ov sep.TIz (hk _ _ sep.TIz sep.TITO sep.TIi1 sep.TIi2 sep.TIi3 hTI)
    · have hlt : d < s.heap.objs.size := by
        have e' : d = z ∨ d = TI ∨ d = TO ∨ d = i1 ∨ d = i2 ∨ d = i3 := by simpa using hd
        rcases e' with q | q | q | q | q | q
        · rw [q]; exact hzl
        · rw [q]; exact Heap.lt_size hTI
        · rw [q]; exact Heap.lt_size hTO
        · rw [q]; obtain ⟨_, e1, _⟩ := h1; exact Heap.lt_size e1
        · rw [q]; obtain ⟨_, e1, _⟩ := h2; exact Heap.lt_size e1
        · rw [q]; obtain ⟨_, e1, _⟩ := h3; exact Heap.lt_size e1
      rw [upd_ne (Nat.ne_of_lt hlt)]
      exact (hf d hd).1
  done := by
    intro X hP hw hK hc i pins s σ H E I hf st hg
    subst hP hw hK
    obtain ⟨⟨hz, hTI, ⟨u0, v0, w0, hTO⟩, h1, h2, h3⟩, sep, n1, n2, n3⟩ := st
    obtain ⟨hx, hy, hw, l1, l2, l3, le⟩ := hg
    obtain ⟨its, rv, p, _⟩ := I.tuple hx
    obtain ⟨its2, rv2, p2, _⟩ := I.tuple hy
    obtain ⟨its3, rv3, p3, _⟩ := I.tuple hw
    have D1 := Draws.tuple (prog := X.prog) (w := X.w) (A := X.A.in1) (I.ok.hd hc) i1 a n1 its.toArray
    have D2 := Draws.tuple (prog := X.prog) (w := X.w) (A := X.A.in1) (I.ok.hd hc) i2 b n2 its2.toArray
    have D3 := Draws.tuple (prog := X.prog) (w := X.w) (A := X.A.in1) (I.ok.hd hc) i3 c n3 its3.toArray
    have q1 := rv.length
    have q2 := rv2.length
    have q3 := rv3.length
    refine wpAny_pyNext_zipD3_end sep D1 D2 D3 hz hTI hTO ⟨h1, p⟩ ⟨h2, p2⟩ ⟨h3, p3⟩ (by simp; omega) (by simp; omega) (by simp; omega) (by simp; omega) fun h' tk hk => ⟨rfl, I.turnedL (t' := tk) (ch := [z, TI, TO, i1, i2, i3]) (fun c o hb q =>
      hk c o (fun q' => hb (by simp [q'])) (fun q' => hb (by simp [q'])) (fun q' => hb (by simp [q'])) (fun q' => hb (by simp [q'])) (fun q' => hb (by simp [q'])) q) hf⟩
  self := fun A i s Q E st h => wpAny_pyIter_zip st.1.1 h
def iZ3 (K : PySem.W.Frag) (ta : TA) : TI := fun σ H R => ta σ H fun vs H1 => ∃ a b c xs ys zs, vs = [.ref a, .ref b, .ref c] ∧ SqT K H1 a xs ∧ SqT K H1 b ys ∧ SqT K H1 c zs ∧ R (Itz3 K a b c xs ys zs) H1
theorem pi_z3 {X : Cx} {e e2 e3 : Expr} {ta : TA} {p pos : Pos} (hg : Gl X "zip") (hm : X.mg "zip" = none) (ha : PA X [e, e2, e3] ta)
    (hs : starEach [e, e2, e3] X.env = (false, eval e X.env) :: starEach [e2, e3] X.env := by rfl) (hpl : (backTo pos (starEach [e2, e3] X.env)).any (·.1) = false := by rfl) :
    PI X (.Tuple elts kk tpos) (.Call (.Name "zip" p) [e, e2, e3] [] pos) (iZ3 X.K ta) := by
  refine ⟨fun pins s σ H R I h => ?_⟩
  refine Call_ (ld_blt I hg hm PyProof.Rows.boot_zip (PyProof.Rows.callWith_type1 (thn (ha.run pos pins s σ H _ I h) fun us s1 ⟨vs, H1, I1, r1, q1⟩ => ?_) hs hpl))
  obtain ⟨a, b, c, xs, ys, zs, ex, hx, hy, hz, q⟩ := q1
  subst ex
  cases r1 with
  | cons r rr =>
    cases rr with
    | cons r' rr =>
      cases rr with
      | cons r'' rr =>
        cases rr
        cases r
        cases r'
        cases r''
        obtain ⟨its, rv, p1, _⟩ := I1.tuple hx
        obtain ⟨its2, rv2, p2, _⟩ := I1.tuple hy
        obtain ⟨its3, rv3, p3, _⟩ := I1.tuple hz
        have la : a < s1.heap.objs.size := p1.lt
        have lb : b < s1.heap.objs.size := p2.lt
        have lc : c < s1.heap.objs.size := p3.lt
        refine zip_begins3 (begins_tuple a its.toArray) (begins_tuple b its2.toArray) (begins_tuple c its3.toArray) p1 p2 p3 fun h' hz hTI hTO h1 h2 h3 hsz hk => wpAny_pyIter_zip hz ?_
        have I2 : Inv X pins σ H1 { s1 with heap := h' } := I1.kept (t' := s1.toks) hk
        refine ⟨s1.heap.objs.size + 5, [s1.heap.objs.size + 5, s1.heap.objs.size + 3, s1.heap.objs.size + 4, s1.heap.objs.size, s1.heap.objs.size + 1, s1.heap.objs.size + 2], _, _, H1, rfl, I2, turn_z3 a b c _ _ _ _ _ _ xs ys zs,
          ⟨⟨hz, hTI, ⟨_, _, _, hTO⟩, ⟨_, h1, rfl, rfl⟩, ⟨_, h2, rfl, rfl⟩, ⟨_, h3, rfl, rfl⟩⟩, zip_sep3 (N := s1.heap.objs.size) (fp1 := [a]) (fp2 := [b]) (fp3 := [c]) (by simpa using la) (by simpa using lb) (by simpa using lc), Nat.ne_of_lt la, Nat.ne_of_lt (Nat.lt_succ_of_lt lb), Nat.ne_of_lt (Nat.lt_succ_of_lt (Nat.lt_succ_of_lt lc))⟩, fun d hd => ?_, q⟩
        have e' : d = s1.heap.objs.size + 5 ∨ d = s1.heap.objs.size + 3 ∨ d = s1.heap.objs.size + 4 ∨ d = s1.heap.objs.size ∨ d = s1.heap.objs.size + 1 ∨ d = s1.heap.objs.size + 2 := by simpa using hd
        have hle : s1.heap.objs.size ≤ d := by
          rcases e' with z | z | z | z | z | z
          · rw [z]; exact Nat.le_add_right _ _
          · rw [z]; exact Nat.le_add_right _ _
          · rw [z]; exact Nat.le_add_right _ _
          · rw [z]; exact Nat.le_refl _
          · rw [z]; exact Nat.le_add_right _ _
          · rw [z]; exact Nat.le_add_right _ _
        exact I1.fpOk hle (I1.hok.fresh hle)
end
section
variable {X : Cx} {c : Ct} {E : L2.St → XK} {a b b2 e : PySem.Expr} {f g fa fb : Ev} {fs : EvL} {pos p tpos : Pos} {elts : List PySem.Expr} {kk : Nat}
def zips3 (xs ys zs : List Val) : List Val := (zips ys zs).zipWith (fun q x => match q with | .tup [y, z] => .tup [x, y, z] | q => q) xs
def iZip3 (fs : EvL) : EvL := fun η => (fs η).bind fun vs => match vs with
  | [.tup xs, .tup ys, .tup zs] => .ret (zips3 xs ys zs)
  | _ => .bad
theorem zips3_len (xs ys zs : List Val) : (zips3 xs ys zs).length = min (min ys.length zs.length) xs.length := by simp [zips3, zips]
theorem zips3_get {xs ys zs : List Val} {i : Nat} {d : Val} (h : (zips3 xs ys zs)[i]? = some d) : ∃ x y z, xs[i]? = some x ∧ ys[i]? = some y ∧ zs[i]? = some z ∧ d = .tup [x, y, z] := by
  unfold zips3 at h
  rw [List.getElem?_zipWith] at h
  split at h
  · rename_i q x h1 h2
    obtain ⟨y, z, e1, e2, rfl⟩ := zips_get h1
    cases h
    exact ⟨x, y, z, h2, e1, e2, rfl⟩
  · cases h
theorem itok_z3 {S : Hp} {p q r : Addr} {xs ys zs : List V} {ds es fs : List Val} (h : SqT c.K S p xs) (hd : DVs c.K c.cl S xs ds) (h' : SqT c.K S q ys) (hd' : DVs c.K c.cl S ys es) (h'' : SqT c.K S r zs) (hd'' : DVs c.K c.cl S zs fs) : ItOk c true S (Itz3 c.K p q r xs ys zs) (zips3 ds es fs) := by
  have l1 := hd.len
  have l2 := hd'.len
  have l3 := hd''.len
  refine ⟨fun i H S1 s0 s1 hi => ?_, fun H S1 s0 s1 => ?_, fun i H S1 x H' s0 s1 y d e => ?_⟩
  · rw [zips3_len] at hi
    exact ⟨sqt_same (s0.trans s1) h, sqt_same (s0.trans s1) h', sqt_same (s0.trans s1) h'', by omega, by omega, by omega⟩
  · refine ⟨sqt_same (s0.trans s1) h, sqt_same (s0.trans s1) h', sqt_same (s0.trans s1) h'', ?_⟩
    rw [zips3_len]
    omega
  · obtain ⟨T, u, v, w, rfl, hT, rfl, y1, y2, y3⟩ := y
    obtain ⟨d1, d2, d3, e1, e2, e3, rfl⟩ := zips3_get e
    obtain ⟨u', h2, h3⟩ := hd.get e1
    obtain ⟨v', h4, h5⟩ := hd'.get e2
    obtain ⟨w', h6, h7⟩ := hd''.get e3
    rw [h2] at y1
    rw [h4] at y2
    rw [h6] at y3
    cases y1
    cases y2
    cases y3
    exact ⟨_, Gr.alloc s1 hT, DX.tup (SqT.of upd_same) (.cons ((h3.mono s0).mono (Sub.new (s1.free hT))) (.cons ((h5.mono s0).mono (Sub.new (s1.free hT))) (.cons ((h7.mono s0).mono (Sub.new (s1.free hT))) .nil)))⟩
theorem DVs.three {S : Hp} {xs : List V} {d e k : Val} (h : DVs c.K c.cl S xs [d, e, k]) : ∃ v w u, xs = [v, w, u] ∧ DV c.K c.cl S v d ∧ DV c.K c.cl S w e ∧ DV c.K c.cl S u k := by
  cases h with | cons a b => cases b with | cons a' b => cases b with | cons a'' b => cases b; exact ⟨_, _, _, rfl, a, a', a''⟩
theorem i_zip3 (hK : X.K = c.K) (hg : Gl X "zip") (hm : X.mg "zip" = none) (ha : PA X [a, b, b2] (tA c E fs)) (hs : starEach [a, b, b2] X.env = (false, eval a X.env) :: starEach [b, b2] X.env := by rfl) (hpl : (backTo pos (starEach [b, b2] X.env)).any (·.1) = false := by rfl) :
    PI X (.Tuple elts kk tpos) (.Call (.Name "zip" p) [a, b, b2] [] pos) (tI c true E (iZip3 fs)) :=
  pi_imp (pi_z3 hg hm ha hs hpl) fun σ H R ⟨η, S, n, r, d, al⟩ => ⟨η, S, n, r, d, all_mono (all_bind.mp al) (fun ds k q vs H1 S1 g1 d1 h1 => by
    split at q
    · obtain ⟨u, v, w, rfl, hu, hv, hw⟩ := h1.three
      cases hu with
      | tup l1 x1 =>
        cases hv with
        | tup l2 x2 =>
          cases hw with
          | tup l3 x3 => exact ⟨_, _, _, _, _, _, rfl, by rw [hK]; exact (l1.mono (r.grow g1).sub).sq, by rw [hK]; exact (l2.mono (r.grow g1).sub).sq, by rw [hK]; exact (l3.mono (r.grow g1).sub).sq, by rw [hK]; exact q _ H1 S1 g1 d1 (itok_z3 l1.sq x1 l2.sq x2 l3.sq x3)⟩
    · exact q.elim) fun _ _ t => t⟩
end
end EV
end
section
set_option Elab.async false
set_option linter.all false
set_option maxRecDepth 100000
set_option maxHeartbeats 4000000
/-! A slice as a new list; two stores at once; pop; loops left. -/
namespace EV
open PySem PySem.Spec PyProof.Rows L2 XK
section
variable {X : Cx} {c : Ct} {E : L2.St → XK} {a b e : PySem.Expr} {f g fa fb : Ev} {fs : EvL} {pos p p2 : Pos} {es : List PySem.Expr} {i : Nat} {x : Str}
/-! ### x[lo:hi], a new list -/
def vSlL (d : Val) (lo hi : Option Int) : Option Val := match d with
  | .lst xs => some (.lst (cutD xs lo hi))
  | _ => none
def eSlN (f : Ev) (lo hi : EvO) : Ev := fun η => (f η).bind fun d => (lo η).bind fun l => (hi η).bind fun h => ofO (vSlL d l h)
theorem d_slN {lo hi : Option PySem.Expr} {fl fh : EvO} (hK : X.K = c.K) (ha : PE X a (tW c E f)) (hl : PO X lo (tP c E fl)) (hh : PO X hi (tP c E fh)) : PE X (.Subscript a (.Slice lo hi none p2) pos) (tN c E (eSlN f fl fh)) :=
  pe_imp (pe_slice (r := fun x lo hi H Q => rSlL X.K x lo hi H Q) sl_list ha hl hh) fun σ H Q ⟨η, S, n, r, d, al⟩ =>
    ⟨η, S, n, r, d, all_mono (all_bind.mp al) (fun d1 k q v H1 S1 g1 d1' h1 => ⟨η, S1, k, r.grow g1, d1', all_mono (all_bind.mp q) (fun l k q H2 S2 g2 d2' => ⟨η, S2, k, r.grow (g1.trans g2), d2', all_mono (all_bind.mp q) (fun u k q H3 S3 g3 d3' => by
      obtain ⟨o, e, q⟩ := all_ofO.mp q
      have G := (g1.trans g2).trans g3
      have rG := r.grow G
      have s3 := rG.sub
      have h3 := (h1.grow g2).grow g3
      unfold vSlL at e
      split at e
      · cases e
        obtain ⟨p, xs, rfl, hp, hd⟩ := h3.lst s3
        exact ⟨p, xs, rfl, by rw [hK]; exact hp, fun q' hq => q q' _ _ (G.trans (Gr.alloc0 s3 hq).d) (d3'.sub (Gr.alloc0 s3 hq).keep) (r.none0 G hq) (own_new rG hq (cut_dv hd l u))⟩
      · cases e) fun _ _ t => t.after (g1.trans g2)⟩) fun _ _ t => t.after g1⟩) fun _ _ t => t⟩
/-! ### x[i], x[j] = e, e' -/
def sto (i : Nat) (fi : Ev) (d : Val) (η : Env) : T Out := match fi η with
  | .ret (.int j) => onLst i η fun xs => (ixN xs.length j).map fun n => xs.set n d
  | _ => .bad
def mStore2 (i : Nat) (fi fj f : Ev) : Sm := fun η => (f η).hd (fun d => match d with
  | .tup [d1, d2] => (sto i fi d1 η).bind fun o => match o with | .nx η' => sto i fj d2 η' | _ => .bad
  | _ => .bad) fun e => .ret (.ex e η)
theorem sto_all {η : Env} {fi : Ev} {d : Val} {n : Nat} {Q : Out → Nat → Prop} {Er : Err → Nat → Prop} (h : All (sto i fi d η) n Q Er) :
    ∃ j xs nn, fi η = .ret (.int j) ∧ η[i]? = some (some (.lst xs)) ∧ ixN xs.length j = some nn ∧ Q (.nx (η.set i (some (.lst (xs.set nn d))))) n := by
  unfold sto at h
  split at h
  · rename_i j e
    obtain ⟨xs, ys, e1, e2, q⟩ := on_lst h
    cases z : ixN xs.length j with
    | none => rw [z] at e2; cases e2
    | some nn =>
      rw [z] at e2
      cases e2
      exact ⟨j, xs, nn, e, e1, z, q⟩
  · exact h.elim
theorem sto_sub {fi : Ev} (hi : i ∈ c.ow) {σ : L2.St} {H S : Hp} {η : Env} {n : Nat} {v : V} {d : Val} {Q : L2.St → Hp → Prop} {Er : Err → Nat → Prop} (r : Rel c σ H S η) (dr : DrOk c.dr H n) (hv : DV c.K c.cl S v d)
    (al : All (sto i fi d η) n (fun o k => ∀ η', o = .nx η' → ∀ H' S', Gd c.tb c.dr c.H0 c.S0 H' S' → Rel c σ H' S' η' → DrOk c.dr H' k → Sub S S' → Q σ H') Er) :
    gSub (tVar i) (tE c E fi) rSetL v σ H Q := by
  obtain ⟨j, xs, nn, e1, e2, e3, q⟩ := sto_all al
  obtain ⟨l, ys, h1, h2, h3, h4⟩ := r.lst hi e2
  refine ⟨_, h1, η, S, n, r, dr, ?_⟩
  rw [e1]
  intro y H2 S2 g2 d2 hy
  cases hy
  obtain ⟨l', ys', h1', h2', h3', h4'⟩ := (r.grow g2).lst hi e2
  rw [h1] at h1'
  cases h1'
  obtain ⟨r2, dr2⟩ := h4' (DVs.set (hv.mono g2.up) nn h3') d2
  exact ⟨_, ys', j, nn, rfl, rfl, h2', by rw [h3'.len]; exact e3, q _ rfl _ S2 r2.g0 r2 dr2 g2.up⟩
theorem s_store2 {px px2 tpos tpos2 tp : Pos} {kt : Nat} {b b2 : PySem.Expr} {fi fj : Ev} (hK : X.K = c.K) (hcalm : X.calm = true) (hi : i ∈ c.ow) (hv : PE X (.Name x px) (tVar i)) (hv2 : PE X (.Name x px2) (tVar i)) (ha : PE X a (tE c E f)) (hb : PE X b (tE c E fi)) (hb2 : PE X b2 (tE c E fj))
    (has : ∀ v, assign (.Subscript (.Name x px) b tpos) X.env v = (do
      let ov ← holding [v] (eval (.Name x px) X.env)
      let iv ← holding [v, ov] (eval b X.env); standAt tpos; holding [v, ov, iv] (setItem ov iv v); release [v, ov, iv] []) := by intro _; rfl)
    (has2 : ∀ v, assign (.Subscript (.Name x px2) b2 tpos2) X.env v = (do
      let ov ← holding [v] (eval (.Name x px2) X.env)
      let iv ← holding [v, ov] (eval b2 X.env); standAt tpos2; holding [v, ov, iv] (setItem ov iv v); release [v, ov, iv] []) := by intro _; rfl)
    (hc1 : (assignEach [.Subscript (.Name x px) b tpos, .Subscript (.Name x px2) b2 tpos2] X.env).map (·.2) = assign (.Subscript (.Name x px) b tpos) X.env :: (assignEach [.Subscript (.Name x px2) b2 tpos2] X.env).map (·.2) := by rfl)
    (hc2 : (assignEach [.Subscript (.Name x px2) b2 tpos2] X.env).map (·.2) = assign (.Subscript (.Name x px2) b2 tpos2) X.env :: (assignEach [] X.env).map (·.2) := by rfl)
    (hn : (assignEach [.Subscript (.Name x px) b tpos, .Subscript (.Name x px2) b2 tpos2] X.env).length = 2 := by rfl) (hst : (assignEach [.Subscript (.Name x px) b tpos, .Subscript (.Name x px2) b2 tpos2] X.env).findIdx? (·.1) = none := by rfl)
    (hs : swapsWithSole [.Tuple [.Subscript (.Name x px) b tpos, .Subscript (.Name x px2) b2 tpos2] kt tp] a pos.line X.env = pure false := by rfl) (hw : swappedStores [.Tuple [.Subscript (.Name x px) b tpos, .Subscript (.Name x px2) b2 tpos2] kt tp] a X.env = pure none := by rfl) (h1 : (assignEach [.Tuple [.Subscript (.Name x px) b tpos, .Subscript (.Name x px2) b2 tpos2] kt tp] X.env).map (·.2) = [assign (.Tuple [.Subscript (.Name x px) b tpos, .Subscript (.Name x px2) b2 tpos2] kt tp) X.env] := by rfl) :
    PS X (.Assign [.Tuple [.Subscript (.Name x px) b tpos, .Subscript (.Name x px2) b2 tpos2] kt tp] a pos) (tS c E (mStore2 i fi fj f)) :=
  ps_imp (ps_asg ha (pg_tup hcalm (pgs_cons (pg_sub hv hb set_list has) (pgs_cons (pg_sub hv2 hb2 set_list has2) pgs_nil hc2) hc1) hn hst) hs hw h1) fun D σ H ⟨η, S, n, r, d, al⟩ => ⟨η, S, n, r, d, all_mono (all_hd.mp al) (fun d1 k q v H1 S1 g1 d1' hv1 => by
    split at q
    · cases hv1 with
      | tup ht hd =>
        obtain ⟨u, w, rfl, hu, hw⟩ := hd.two
        have r1 := r.grow g1
        refine ⟨_, [u, w], rfl, ?_, rfl, ?_⟩
        · rw [hK]; exact (ht.mono r1.sub).sq
        refine ⟨_, _, rfl, sto_sub hi r1 d1' hu (all_mono (all_bind.mp q) (fun o k q η' e H2 S2 _ r2 d2 s2 => ?_) fun _ _ t => t)⟩
        subst e
        refine ⟨_, _, rfl, sto_sub hi r2 d2 (hw.mono s2) (all_mono q (fun o k q η'' e H3 S3 _ r3 d3 s3 => ?_) fun _ _ t => t)⟩
        subst e
        exact ⟨rfl, q σ _ S3 r3 d3 (g1.up.trans (s2.trans s3))⟩
    · exact q.elim) fun e k q => Thrown.of (D := D) r q⟩
/-! ### loops left -/
def mBk : Sm := fun η => .ret (.bk η)
def mCt : Sm := fun η => .ret (.ct η)
theorem s_break : PS X (.Break pos) (tS c E mBk) := ps_imp ps_break fun D σ H ⟨η, S, n, r, d, al⟩ => al σ H S r d (Sub.refl _)
theorem s_continue : PS X (.Continue pos) (tS c E mCt) := ps_imp ps_continue fun D σ H ⟨η, S, n, r, d, al⟩ => al σ H S r d (Sub.refl _)
end
/-! ### the walk -/
section
variable {η : Env} {n : Nat} {f : Ev} {fi fj : Ev} {lo hi : EvO} {QO : Out → Nat → Prop} {Q : Val → Nat → Prop} {QL : List Val → Nat → Prop} {E : Err → Nat → Prop} {i : Nat} {fs : EvL}
theorem u_iZip3 (h : Al (fs η) n (fun xs k => ∃ x y z, xs = [.tup x, .tup y, .tup z] ∧ QL (zips3 x y z) k) E) : Al (iZip3 fs η) n QL E := by
  simp only [al_eq] at *
  exact all_bind.mpr (all_mono h (fun xs k ⟨x, y, z, e, q⟩ => by subst e; exact q) fun _ _ t => t)
instance wu_iZip3 : WP (Al (iZip3 fs η) n QL E) (Al (fs η) n (fun xs k => ∃ x y z, xs = [.tup x, .tup y, .tup z] ∧ QL (zips3 x y z) k) E) := ⟨u_iZip3⟩
theorem u_slN (h : Al (f η) n (fun d a => Al (lo η) a (fun l b => Al (hi η) b (fun u k => ∃ xs, d = .lst xs ∧ Q (.lst (cutD xs l u)) k) E) E) E) : Al (eSlN f lo hi η) n Q E := by
  simp only [al_eq] at *
  exact all_bind.mpr (all_mono h (fun d a q => all_bind.mpr (all_mono q (fun l b q => all_bind.mpr (all_mono q (fun u k ⟨xs, e, q'⟩ => by subst e; exact q') fun _ _ t => t)) fun _ _ t => t)) fun _ _ t => t)
instance wu_slN : WP (Al (eSlN f lo hi η) n Q E) (Al (f η) n (fun d a => Al (lo η) a (fun l b => Al (hi η) b (fun u k => ∃ xs, d = .lst xs ∧ Q (.lst (cutD xs l u)) k) E) E) E) := ⟨u_slN⟩
theorem u_bk (h : QO (.bk η) n) : Al (mBk η) n QO E := al_of h
instance wu_bk : WP (Al (mBk η) n QO E) (QO (.bk η) n) := ⟨u_bk⟩
theorem u_ct (h : QO (.ct η) n) : Al (mCt η) n QO E := al_of h
instance wu_ct : WP (Al (mCt η) n QO E) (QO (.ct η) n) := ⟨u_ct⟩
theorem u_store2 {xs : List Val} {F : Option Val → Env} [a : GetE η i (.lst xs)] [g : SetE η i F] (h : Al (f η) n (fun d k => ∃ d1 d2 j1 j2 n1 n2, d = .tup [d1, d2] ∧ fi η = .ret (.int j1) ∧ ixN xs.length j1 = some n1 ∧ fj (F (some (.lst (xs.set n1 d1)))) = .ret (.int j2) ∧ ixN xs.length j2 = some n2 ∧ QO (.nx (F (some (.lst ((xs.set n1 d1).set n2 d2))))) k) (fun e k => QO (.ex e η) k)) : Al (mStore2 i fi fj f η) n QO E := by
  have hlen : i < η.length := by
    rcases Nat.lt_or_ge i η.length with h | h
    · exact h
    · have := a.get
      rw [List.getElem?_eq_none h] at this
      cases this
  have hget : η[i]? = some (some (.lst xs)) := a.get
  simp only [al_eq] at *
  refine all_hd.mpr (all_mono h (fun d k q => ?_) fun _ _ t => t)
  obtain ⟨d1, d2, j1, j2, n1, n2, rfl, e1, e2, e3, e4, q⟩ := q
  have s1 : sto i fi d1 η = .ret (.nx (F (some (.lst (xs.set n1 d1))))) := by
    unfold sto onLst
    rw [e1]
    dsimp only
    rw [hget]
    dsimp only
    rw [e2, ← g.set]
    rfl
  have s2 : sto i fj d2 (F (some (.lst (xs.set n1 d1)))) = .ret (.nx (F (some (.lst ((xs.set n1 d1).set n2 d2))))) := by
    unfold sto onLst
    rw [e3]
    dsimp only
    rw [← g.set, ← g.set, List.getElem?_set_self hlen]
    dsimp only
    rw [List.length_set, e4]
    show T.ret (Out.nx ((η.set i _).set i _)) = _
    rw [List.set_set]
  show All ((sto i fi d1 η).bind _) k QO E
  rw [s1]
  show All (sto i fj d2 _) k QO E
  rw [s2]
  exact q
instance wu_store2 {xs : List Val} {F : Option Val → Env} [GetE η i (.lst xs)] [SetE η i F] : WP (Al (mStore2 i fi fj f η) n QO E) (Al (f η) n (fun d k => ∃ d1 d2 j1 j2 n1 n2, d = .tup [d1, d2] ∧ fi η = .ret (.int j1) ∧ ixN xs.length j1 = some n1 ∧ fj (F (some (.lst (xs.set n1 d1)))) = .ret (.int j2) ∧ ixN xs.length j2 = some n2 ∧ QO (.nx (F (some (.lst ((xs.set n1 d1).set n2 d2))))) k) (fun e k => QO (.ex e η) k)) := ⟨u_store2⟩
end
end EV
end
section
set_option Elab.async false
set_option linter.all false
set_option maxRecDepth 100000
set_option maxHeartbeats 4000000
/-! Loops by what is left of the list; one step of any kind. -/
namespace EV
open PySem PySem.Spec PyProof.Rows L2 XK
section
variable {η η0 : Env} {n : Nat} {g : Val → Env → Option Env} {m : Sm} {QO : Out → Nat → Prop} {Q : Val → Nat → Prop} {QL : List Val → Nat → Prop} {E : Err → Nat → Prop} {ft : Env → T Bool} {fe : Ev}
/-- a loop, by the list that is left -/
theorem v_walk {α : Type} (enc : α → Val) (P : List α → Env → Nat → Prop)
    (st : ∀ x l η a, P (x :: l) η a → ∃ η1, g (enc x) η = some η1 ∧ All (m η1) a (fun o b => match o with | .nx η2 => P l η2 b | .ct η2 => P l η2 b | .bk η2 => QO (.nx η2) b | o => QO o b) E)
    (fin : ∀ η a, P [] η a → QO (.nx η) a) : ∀ (l : List α) {η : Env} {n : Nat}, P l η n → All (turns g m (l.map enc) η) n QO E
  | [], η, n, h => fin η n h
  | x :: l, η, n, h => by
    obtain ⟨η1, e, q⟩ := st x l η n h
    refine all_bind.mpr (all_ofO.mpr ⟨η1, e, all_bind.mpr (all_mono q (fun o k q => ?_) fun _ _ t => t)⟩)
    cases o with
    | nx η2 => exact v_walk enc P st fin l q
    | ct η2 => exact v_walk enc P st fin l q
    | bk η2 => exact q
    | rt v => exact q
    | ex e η2 => exact q
theorem u_walk {α : Type} (enc : α → Val) (P : List α → Env → Nat → Prop) (l : List α) (h : P l η n)
    (st : ∀ x l η a, P (x :: l) η a → ∃ η1, g (enc x) η = some η1 ∧ Al (m η1) a (fun o b => match o with | .nx η2 => P l η2 b | .ct η2 => P l η2 b | .bk η2 => QO (.nx η2) b | o => QO o b) E)
    (fin : ∀ η a, P [] η a → QO (.nx η) a) : Al (turns g m (l.map enc) η) n QO E := by
  simp only [al_eq] at *
  exact v_walk enc P st fin l h
/-- an expression's if, its two ways together -/
theorem u_ifP {f g : Ev} (h : Al (ft η) n (fun k a => ∃ P : Val → Nat → Prop, (k = true → Al (f η) a P E) ∧ (k = false → Al (g η) a P E) ∧ ∀ d b, P d b → Q d b) E) : Al (eIf ft f g η) n Q E :=
  u_if (al_mono h (fun k a ⟨P, h1, h2, h3⟩ => ⟨fun z => al_mono (h1 z) (fun d b q => h3 d b q) fun _ _ t => t, fun z => al_mono (h2 z) (fun d b q => h3 d b q) fun _ _ t => t⟩) fun _ _ t => t)
/-- a statement's if, its two ways together -/
theorem u_mIfP {m' : Sm} (h : Al (ft η) n (fun k a => ∃ P : Out → Nat → Prop, (k = true → Al (m η) a P E) ∧ (k = false → Al (m' η) a P E) ∧ ∀ d b, P d b → QO d b) (fun e k => QO (.ex e η) k)) : Al (mIf ft m m' η) n QO E :=
  u_mIf (al_mono h (fun k a ⟨P, h1, h2, h3⟩ => ⟨fun z => al_mono (h1 z) (fun d b q => h3 d b q) fun _ _ t => t, fun z => al_mono (h2 z) (fun d b q => h3 d b q) fun _ _ t => t⟩) fun _ _ t => t)
/-- what is known of an expression's value is enough -/
theorem u_mid {α : Type} {t : T α} {n : Nat} {Q : α → Nat → Prop} {E : Err → Nat → Prop} (P : α → Nat → Prop) (h : Al t n P E) (q : ∀ d b, P d b → Q d b) : Al t n Q E := al_mono h q fun _ _ t => t
end
end EV
end
section
set_option Elab.async false
set_option linter.all false
set_option maxRecDepth 100000
set_option maxHeartbeats 4000000
/-! Families of values that are equal exactly if what they stand for is. -/
namespace EV
open PySem PySem.Spec PyProof.Rows L2 XK
class Enc {α : Type} (enc : α → Val) (k : outParam Nat) : Prop where
  pl : ∀ a, plain (enc a) = true
  dp : ∀ a, (toD (enc a)).depth ≤ k
  ev : ∀ a b, PyData.eqv (toD (enc a)) (toD (enc b)) = true ↔ a = b
abbrev sgE (k : Nat) : Val := .str (txtOf [k])
abbrev txE (w : List Nat) : Val := .str (txtOf w)
abbrev niE (n : Nat) : Val := .int (n : Nat)
abbrev inE (n : Int) : Val := .int n
abbrev blE (b : Bool) : Val := .bl b
instance enc_int : Enc inE 0 := ⟨fun _ => rfl, fun _ => Nat.le_refl _, fun a b => by
  show (a == b) = true ↔ _
  simp⟩
instance enc_nat : Enc niE 0 := ⟨fun _ => rfl, fun _ => Nat.le_refl _, fun a b => by
  show ((a : Int) == (b : Int)) = true ↔ _
  rw [beq_iff_eq]
  omega⟩
instance enc_bl : Enc blE 0 := ⟨fun _ => rfl, fun _ => Nat.le_refl _, fun a b => by
  show (a == b) = true ↔ _
  simp⟩
instance enc_txt : Enc txE 0 := ⟨fun _ => rfl, fun _ => Nat.le_refl _, fun a b => by
  show (txtOf a == txtOf b) = true ↔ _
  rw [beq_iff_eq]
  exact txt_inj⟩
instance enc_sg : Enc sgE 0 := ⟨fun _ => rfl, fun _ => Nat.le_refl _, fun a b => by
  rw [enc_txt.ev [a] [b]]
  simp⟩
section
variable {α β : Type} {enc : α → Val} {enc2 : β → Val} {k k2 : Nat}
theorem plains_map [h : Enc enc k] : ∀ l : List α, plains (l.map enc) = true
  | [] => rfl
  | a :: l => by
    show (plain (enc a) && plains (l.map enc)) = true
    rw [h.pl, plains_map l]
    rfl
theorem toDs_mapE (enc : α → Val) (l : List α) : toDs (l.map enc) = l.map fun a => toD (enc a) := by
  induction l with
  | nil => rfl
  | cons a l ih =>
    show toD (enc a) :: toDs (l.map enc) = _
    rw [ih]
    rfl
theorem dps_map [h : Enc enc k] : ∀ l : List α, PyData.depthAll (toDs (l.map enc)) ≤ k
  | [] => Nat.zero_le _
  | a :: l => by
    have e : PyData.depthAll (toDs ((a :: l).map enc)) = max (toD (enc a)).depth (PyData.depthAll (toDs (l.map enc))) := rfl
    rw [e]
    exact Nat.max_le.mpr ⟨h.dp a, dps_map l⟩
theorem eqvs_map [h : Enc enc k] : ∀ xs ys : List α, PyData.eqvAll (toDs (xs.map enc)) (toDs (ys.map enc)) = true ↔ xs = ys
  | [], [] => by simp [toDs, PyData.eqvAll]
  | [], y :: ys => by simp [toDs, PyData.eqvAll]
  | x :: xs, [] => by simp [toDs, PyData.eqvAll]
  | x :: xs, y :: ys => by
    have e : PyData.eqvAll (toDs ((x :: xs).map enc)) (toDs ((y :: ys).map enc)) = (PyData.eqv (toD (enc x)) (toD (enc y)) && PyData.eqvAll (toDs (xs.map enc)) (toDs (ys.map enc))) := rfl
    rw [e, Bool.and_eq_true, h.ev, eqvs_map xs ys, List.cons.injEq]
instance enc_lst [h : Enc enc k] : Enc (fun l : List α => Val.lst (l.map enc)) (k + 1) := ⟨fun l => plains_map l, fun l => Nat.succ_le_succ (dps_map l), fun xs ys => eqvs_map xs ys⟩
instance enc_tup [h : Enc enc k] : Enc (fun l : List α => Val.tup (l.map enc)) (k + 1) := ⟨fun l => plains_map l, fun l => Nat.succ_le_succ (dps_map l), fun xs ys => eqvs_map xs ys⟩
instance enc_pair [h : Enc enc k] [h2 : Enc enc2 k2] : Enc (fun p : α × β => Val.tup [enc p.1, enc2 p.2]) (max k k2 + 1) := ⟨fun p => by
    show (plain (enc p.1) && (plain (enc2 p.2) && true)) = true
    rw [h.pl, h2.pl]
    rfl, fun p => by
    show max (toD (enc p.1)).depth (max (toD (enc2 p.2)).depth 0) + 1 ≤ _
    have := h.dp p.1
    have := h2.dp p.2
    omega, fun p q => by
    show (PyData.eqv (toD (enc p.1)) (toD (enc q.1)) && (PyData.eqv (toD (enc2 p.2)) (toD (enc2 q.2)) && true)) = true ↔ _
    rw [Bool.and_true, Bool.and_eq_true, h.ev, h2.ev, Prod.ext_iff]⟩
theorem eqG_enc (enc : α → Val) [DecidableEq α] [h : Enc enc k] (a b : α) (hk : k ≤ 60 := by decide) : eqG (enc a) (enc b) = some (.bl (decide (a = b))) := by
  unfold eqG vEqC
  have := h.dp a
  rw [h.pl, h.pl, decide_eq_true (by omega : (toD (enc a)).depth ≤ 60)]
  show some (Val.bl (PyData.eqv (toD (enc a)) (toD (enc b)))) = _
  rw [show PyData.eqv (toD (enc a)) (toD (enc b)) = decide (a = b) from by
    rw [Bool.eq_iff_iff, h.ev, decide_eq_true_iff]]
theorem neG_enc (enc : α → Val) [DecidableEq α] [h : Enc enc k] (a b : α) (hk : k ≤ 60 := by decide) : neG (enc a) (enc b) = some (.bl (!decide (a = b))) := by
  unfold neG vEqP
  have := h.dp a
  rw [h.pl, h.pl, decide_eq_true (by omega : (toD (enc a)).depth ≤ 60)]
  show some (Val.bl (!PyData.eqv (toD (enc a)) (toD (enc b)))) = _
  rw [show PyData.eqv (toD (enc a)) (toD (enc b)) = decide (a = b) from by
    rw [Bool.eq_iff_iff, h.ev, decide_eq_true_iff]]
theorem eqG_lst (enc : α → Val) [DecidableEq α] [h : Enc enc k] (xs ys : List α) (hk : k + 1 ≤ 60 := by decide) : eqG (.lst (xs.map enc)) (.lst (ys.map enc)) = some (.bl (decide (xs = ys))) := eqG_enc (fun l : List α => Val.lst (l.map enc)) xs ys hk
theorem neG_lst (enc : α → Val) [DecidableEq α] [h : Enc enc k] (xs ys : List α) (hk : k + 1 ≤ 60 := by decide) : neG (.lst (xs.map enc)) (.lst (ys.map enc)) = some (.bl (!decide (xs = ys))) := neG_enc (fun l : List α => Val.lst (l.map enc)) xs ys hk
theorem eqG_tup (enc : α → Val) [DecidableEq α] [h : Enc enc k] (xs ys : List α) (hk : k + 1 ≤ 60 := by decide) : eqG (.tup (xs.map enc)) (.tup (ys.map enc)) = some (.bl (decide (xs = ys))) := eqG_enc (fun l : List α => Val.tup (l.map enc)) xs ys hk
theorem neG_tup (enc : α → Val) [DecidableEq α] [h : Enc enc k] (xs ys : List α) (hk : k + 1 ≤ 60 := by decide) : neG (.tup (xs.map enc)) (.tup (ys.map enc)) = some (.bl (!decide (xs = ys))) := neG_enc (fun l : List α => Val.tup (l.map enc)) xs ys hk
theorem any_enc [DecidableEq α] [h : Enc enc k] (a : α) : ∀ l : List α, ((toDs (l.map enc)).any fun y => PyData.eqv y (toD (enc a))) = decide (a ∈ l)
  | [] => rfl
  | b :: l => by
    show (PyData.eqv (toD (enc b)) (toD (enc a)) || (toDs (l.map enc)).any fun y => PyData.eqv y (toD (enc a))) = _
    rw [any_enc a l, Bool.eq_iff_iff, Bool.or_eq_true, h.ev, decide_eq_true_iff, decide_eq_true_iff, List.mem_cons]
    exact ⟨fun z => z.imp (fun e => e.symm) id, fun z => z.imp (fun e => e.symm) id⟩
theorem vInB_lst (enc : α → Val) [DecidableEq α] [h : Enc enc k] (a : α) (l : List α) (hk : k ≤ 60 := by decide) : vInB (enc a) (.lst (l.map enc)) = some (decide (a ∈ l)) := by
  have := h.dp a
  show (if (plain (enc a) && plains (l.map enc) && decide ((toD (enc a)).depth ≤ 60)) = true then some ((toDs (l.map enc)).any fun y => PyData.eqv y (toD (enc a))) else none) = _
  rw [h.pl, plains_map, decide_eq_true (by omega : (toD (enc a)).depth ≤ 60), any_enc]
  rfl
theorem vInB_tup (enc : α → Val) [DecidableEq α] [h : Enc enc k] (a : α) (l : List α) (hk : k ≤ 60 := by decide) : vInB (enc a) (.tup (l.map enc)) = some (decide (a ∈ l)) := by
  have := h.dp a
  show (if (plain (enc a) && plains (l.map enc) && decide ((toD (enc a)).depth ≤ 60)) = true then some ((toDs (l.map enc)).any fun y => PyData.eqv y (toD (enc a))) else none) = _
  rw [h.pl, plains_map, decide_eq_true (by omega : (toD (enc a)).depth ≤ 60), any_enc]
  rfl
theorem vIn_lst (enc : α → Val) [DecidableEq α] [h : Enc enc k] (a : α) (l : List α) (hk : k ≤ 60 := by decide) : vIn (enc a) (.lst (l.map enc)) = some (.bl (decide (a ∈ l))) := by rw [vIn, vInB_lst enc a l hk]; rfl
theorem vIn_tup (enc : α → Val) [DecidableEq α] [h : Enc enc k] (a : α) (l : List α) (hk : k ≤ 60 := by decide) : vIn (enc a) (.tup (l.map enc)) = some (.bl (decide (a ∈ l))) := by rw [vIn, vInB_tup enc a l hk]; rfl
theorem vNotIn_lst (enc : α → Val) [DecidableEq α] [h : Enc enc k] (a : α) (l : List α) (hk : k ≤ 60 := by decide) : vNotIn (enc a) (.lst (l.map enc)) = some (.bl (!decide (a ∈ l))) := by rw [vNotIn, vInB_lst enc a l hk]; rfl
theorem vNotIn_tup (enc : α → Val) [DecidableEq α] [h : Enc enc k] (a : α) (l : List α) (hk : k ≤ 60 := by decide) : vNotIn (enc a) (.tup (l.map enc)) = some (.bl (!decide (a ∈ l))) := by rw [vNotIn, vInB_tup enc a l hk]; rfl
end
theorem vMod_int {i j : Int} (h : 0 < j) : vMod (.int i) (.int j) = some (.int (i % j)) := by
  show (if decide ((0 : Int) < j) = true then some (Val.int (i % j)) else none) = _
  rw [decide_eq_true h, if_pos rfl]
theorem vMul_intR {i j : Int} (h : (-(2 ^ 64) < i ∧ i < 2 ^ 64) ∨ (-(2 ^ 64) < j ∧ j < 2 ^ 64)) : vMulA (.int i) (.int j) = some (.int (i * j)) := by
  have e : okMul i j = true := by
    unfold okMul
    rcases h with ⟨a, b⟩ | ⟨a, b⟩ <;> rw [decide_eq_true a, decide_eq_true b] <;> simp
  show (if okMul i j = true then some (Val.int (i * j)) else none) = _
  rw [if_pos e]
theorem vDiv_nat {a b : Nat} (h : 0 < b) (h1 : b < 1073741824) : vDiv (.int (a : Nat)) (.int (b : Nat)) = some (.int ((a / b : Nat) : Int)) := by
  show (if (decide ((0 : Int) < (b : Int)) && decide ((b : Int) < 1073741824)) = true then some (Val.int ((a : Int) / (b : Int))) else none) = _
  rw [decide_eq_true (by omega : (0 : Int) < (b : Int)), decide_eq_true (by omega : (b : Int) < 1073741824), Bool.and_self, if_pos rfl]
  rfl
theorem vMod_nat {a b : Nat} (h : 0 < b) : vMod (.int (a : Nat)) (.int (b : Nat)) = some (.int ((a % b : Nat) : Int)) := by
  show (if decide ((0 : Int) < (b : Int)) = true then some (Val.int ((a : Int) % (b : Int))) else none) = _
  rw [decide_eq_true (by omega : (0 : Int) < (b : Int)), if_pos rfl]
  rfl
theorem ixN_nat {n i : Nat} (h : i < n) : ixN n (i : Int) = some i := by
  unfold ixN
  rw [if_pos (by omega), if_pos (by omega), Int.toNat_natCast]
theorem ixN_int {n : Nat} {i : Int} (h0 : 0 ≤ i) (h : i < n) : ixN n i = some i.toNat := by
  unfold ixN
  rw [if_pos h0, if_pos h]
theorem ixN_neg1 {n : Nat} (h : 0 < n) : ixN n (-1) = some (n - 1) := by
  unfold ixN
  rw [if_neg (by decide), if_pos (by omega)]
  congr 1
  omega
theorem vIx_lstI {ds : List Val} {i : Int} {n : Nat} {d : Val} (e : ixN ds.length i = some n) (h : ds[n]? = some d) : vIx (.lst ds) (.int i) = some d := by
  show atI ds i = _
  unfold atI
  rw [e]
  exact h
theorem vIx_tupI {ds : List Val} {i : Int} {n : Nat} {d : Val} (e : ixN ds.length i = some n) (h : ds[n]? = some d) : vIx (.tup ds) (.int i) = some d := by
  show atI ds i = _
  unfold atI
  rw [e]
  exact h
theorem vIx_txtI {w : List Nat} {i : Int} {n k : Nat} (e : ixN w.length i = some n) (h : w[n]? = some k) (hl : w.length ≤ 1000000) : vIx (txE w) (.int i) = some (sgE k) := by
  show (if (txtOf w).length ≤ 1000000 then (atI (txtOf w).cps.toList i).map (fun k => Val.str (txtOf [k])) else none) = _
  rw [txt_len, if_pos hl, txt_list]
  unfold atI
  rw [e]
  show (w[n]?).map _ = _
  rw [h]
  rfl
theorem vList_txt {w : List Nat} (h : w.length ≤ 1000000) : vList (txE w) = some (w.map sgE) := by
  show (if (txtOf w).length ≤ 1000000 then some ((txtOf w).cps.toList.map fun k => Val.str ⟨#[k]⟩) else none) = _
  rw [txt_len, if_pos h, txt_list]
  rfl
theorem vJoin_sg {w : List Nat} (h : w.length ≤ 1000000) : vJoin "" (.lst (w.map sgE)) = some (txE w) := vJoin_signs h
theorem vJoin_sgT {w : List Nat} (h : w.length ≤ 1000000) : vJoin "" (.tup (w.map sgE)) = some (txE w) := by
  show vJoin "" (.lst (w.map sgE)) = _
  exact vJoin_sg h
end EV
end
section
set_option Elab.async false
set_option linter.all false
set_option maxRecDepth 100000
set_option maxHeartbeats 4000000
/-! list.index, list.count over data; pops. -/
namespace EV
open PySem PySem.Spec PyProof.Rows L2 XK
section
variable {X : Cx}
theorem dz_at {pins : List (Addr × Obj)} {σ : L2.St} {H : Hp} {s : Shared} {a : Addr} {ds : List PyData} (I : Inv X pins σ H s) (h : Dz X.K H (.ref a) (.list ds)) :
    ∃ (its : List Value) (xs : List V) (as : List Addr), SqL X.K H a xs ∧ s.heap.IsList a its.toArray ∧ ReadsAll s.heap its ds as ∧ its.length ≤ sizeLine := by
  cases h with
  | lst hs ha =>
    obtain ⟨its, rv, p, hz⟩ := I.list hs
    obtain ⟨as, h4⟩ := Dz.readsAll I ds _ its ha rv
    exact ⟨its, _, as, hs, p.isList, h4, by have := rv.length; omega⟩
def rCountZ (K : PySem.W.Frag) : V → List V → Hp → VK → Prop := fun x xs H Q => ∃ (a : Addr) (y : V) (d : PyData) (ds : List PyData), x = .ref a ∧ xs = [y] ∧ Dz K H (.ref a) (.list ds) ∧ Dz K H y d ∧ PyData.plainAll ds = true ∧ d.plain = true ∧ d.depth ≤ 60 ∧ Q (.int ((ds.countP fun z => PyData.eqv z d : Nat) : Int)) H
theorem mt_countZ (hu : X.A.units + 64 < cLine) : MtR X "list.count" (rCountZ X.K) := by
  intro pins s σ H x xs v us Q I rx rxs h
  obtain ⟨a, y, d, ds, rfl, rfl, hl, hy, pl, pd, hdp, q⟩ := h
  cases rx
  obtain ⟨u, rfl, ru⟩ := rxs.one
  obtain ⟨its, ys, as, _, p, h4, _⟩ := dz_at I hl
  obtain ⟨bs, r1⟩ := Dz.reads I d y u hy ru
  exact SeqAt.count_list_data p (show ReadsAll s.heap its.toArray.toList ds as from h4) r1 pl pd (by omega) ⟨.int ((ds.countP fun z => PyData.eqv z d : Nat) : Int), H, I.tok _, ⟨_, rfl⟩, q⟩
def rIndexZ (K : PySem.W.Frag) : V → List V → Hp → VK → Prop := fun x xs H Q => ∃ (a : Addr) (y : V) (d : PyData) (ds : List PyData) (j : Nat), x = .ref a ∧ xs = [y] ∧ Dz K H (.ref a) (.list ds) ∧ Dz K H y d ∧ PyData.plainAll ds = true ∧ d.plain = true ∧ d.depth ≤ 60 ∧ SeqAt.dataPlace ds d = some j ∧ Q (.int (j : Nat)) H
theorem mt_indexZ (hu : X.A.units + 64 < cLine) : MtR X "list.index" (rIndexZ X.K) := by
  intro pins s σ H x xs v us Q I rx rxs h
  obtain ⟨a, y, d, ds, j, rfl, rfl, hl, hy, pl, pd, hdp, hp, q⟩ := h
  cases rx
  obtain ⟨u, rfl, ru⟩ := rxs.one
  obtain ⟨its, ys, as, hs, p, h4, hlen⟩ := dz_at I hl
  obtain ⟨bs, r1⟩ := Dz.reads I d y u hy ru
  have rs : ReadsAll s.heap its.toArray.toList ds as := h4
  obtain ⟨hj, hz, hno⟩ := SeqAt.hit_at rs pl hp
  obtain ⟨⟨cls, dd, data, sl⟩, ho, hc, n, hd'⟩ := id p
  simp only at hc hd'
  subst hc hd'
  have hsz := sizeLine_eq
  have hj' : j < its.length := by simpa using hj
  refine call_meets PySem.F.slot_list_index ⟨_, ho, rfl⟩ PySem.F.entry_list_index (PySem.F.args_list_index_2 _ _)
    (SeqAt.list_indexAt a its.toArray n dd sl u (fun w => PyData.eqv (SeqAt.readOf s.heap w) d) j hj (by omega) hz hno) ⟨ho, SeqAt.items_plain rs r1 pl pd (by omega), ?_⟩
  exact ⟨.int (j : Nat), H, I.tok _, ⟨_, rfl⟩, q⟩
end
section
variable {X : Cx} {c : Ct} {E : L2.St → XK} {a b e : PySem.Expr} {f g fa fb : Ev} {fs : EvL} {pos p apos cpos px : Pos} {es : List PySem.Expr} {i j : Nat} {x y : Str}
/-! ### methods of lists -/
def eLm (g : List Val → Val → Option Val) (fa fb : Ev) : Ev := fun η => (fa η).bind fun x => match x with
  | .lst ds => (fb η).bind fun y => ofO (g ds y)
  | _ => .bad
theorem d_lm {id : String} {name : Str} {g : List Val → Val → Option Val} {r : V → List V → Hp → VK → Prop} (slot : Slot "list" name id) (ty : typeOf (.builtin id) = pure (.type "method_descriptor")) (rule : MtR X id r)
    (sem : ∀ (x y : V) (H S : Hp) (ds : List Val) (e o : Val) (Q : VK), Sub S H → DW c S H x (.lst ds) → DV c.K c.cl S y e → g ds e = some o → (∀ v, DV c.K c.cl S v o → Q v H) → r x [y] H Q) (hK : X.K = c.K)
    (ha : PE X a (tW c E fa)) (hb : PE X b (tE c E fb)) (hbase : attributeBase a name X.env (eval a X.env) = eval a X.env := by rfl)
    (hfew : ((backTo cpos (starEach [b] X.env)).all (fun x => !x.1) && (backToKw cpos (keywordEach [] X.env)).all (fun x => x.1.isSome) && decide (([b] : List PySem.Expr).length + ([] : List Keyword).length + (if ([] : List Keyword).isEmpty then 0 else 1) < 30)) = true := by rfl)
    (hline : (apos.endLine == cpos.line) = true := by rfl) (hs : starEach [b] X.env = (false, eval b X.env) :: starEach [] X.env := by rfl) (hplain : (backTo cpos (starEach [] X.env)).any (·.1) = false := by rfl) :
    PE X (.Call (.Attribute a name apos) [b] [] cpos) (tE c E (eLm g fa fb)) :=
  pe_imp (pe_bm PySem.F.plainAttrs_list slot ty rule ha (pa_cons hb pa_nil hs) hbase hfew hline hs hplain) fun σ H Q ⟨η, S, n, r, d, al⟩ => ⟨η, S, n, r, d, all_mono (all_bind.mp al) (fun d1 k q v H1 S1 g1 d1' hv => by
    cases d1 with
    | lst ds =>
      obtain ⟨p, xs, rfl, hp, hd⟩ := hv.lst (r.grow g1).sub
      refine ⟨.inl ⟨rfl, _, by rw [hK]; exact hp⟩, η, S1, k, r.grow g1, d1', all_mono (all_bind.mp q) (fun d2 k q w H2 S2 g2 d2' hw => ?_) fun _ _ t => t.after g1⟩
      obtain ⟨o, e, q⟩ := all_ofO.mp q
      exact sem _ _ H2 S2 ds d2 o _ (r.grow (g1.trans g2)).sub (hv.grow g2) hw e fun v hv => q v H2 S2 (g1.trans g2) d2' hv
    | _ => exact (show False from q).elim) fun _ _ t => t⟩
def vCountL (ds : List Val) (e : Val) : Option Val := if (plain e && plains ds && decide ((toD e).depth ≤ 60)) = true then some (.int (((toDs ds).countP fun z => PyData.eqv z (toD e) : Nat) : Int)) else none
def vIndexL (ds : List Val) (e : Val) : Option Val := if (plain e && plains ds && decide ((toD e).depth ≤ 60)) = true then (SeqAt.dataPlace (toDs ds) (toD e)).map fun j => .int (j : Nat) else none
theorem d_lcount (hu : X.A.units + 64 < cLine) (hK : X.K = c.K) (ha : PE X a (tW c E fa)) (hb : PE X b (tE c E fb)) (hbase : attributeBase a "count" X.env (eval a X.env) = eval a X.env := by rfl)
    (hfew : ((backTo cpos (starEach [b] X.env)).all (fun x => !x.1) && (backToKw cpos (keywordEach [] X.env)).all (fun x => x.1.isSome) && decide (([b] : List PySem.Expr).length + ([] : List Keyword).length + (if ([] : List Keyword).isEmpty then 0 else 1) < 30)) = true := by rfl)
    (hline : (apos.endLine == cpos.line) = true := by rfl) (hs : starEach [b] X.env = (false, eval b X.env) :: starEach [] X.env := by rfl) (hplain : (backTo cpos (starEach [] X.env)).any (·.1) = false := by rfl) :
    PE X (.Call (.Attribute a "count" apos) [b] [] cpos) (tE c E (eLm vCountL fa fb)) :=
  d_lm PySem.F.slot_list_count PySem.F.type_list_count (mt_countZ hu) (fun x y H S ds e o Q s hx hy hg q => by
    unfold vCountL at hg
    split at hg
    · rename_i h
      cases hg
      rw [Bool.and_eq_true, Bool.and_eq_true, decide_eq_true_iff] at h
      obtain ⟨p, xs, rfl, hp, hd⟩ := hx.lst s
      refine ⟨p, y, toD e, toDs ds, rfl, rfl, ?_, ?_, plain_ds h.1.2, plain_d h.1.1, h.2, q _ (.int _)⟩
      · rw [hK]; exact hx.dz s (plain_z (d := .lst ds) h.1.2)
      · rw [hK]; exact DW.dz s (.inl hy) (plain_z h.1.1)
    · cases hg) hK ha hb hbase hfew hline hs hplain
theorem d_lindex (hu : X.A.units + 64 < cLine) (hK : X.K = c.K) (ha : PE X a (tW c E fa)) (hb : PE X b (tE c E fb)) (hbase : attributeBase a "index" X.env (eval a X.env) = eval a X.env := by rfl)
    (hfew : ((backTo cpos (starEach [b] X.env)).all (fun x => !x.1) && (backToKw cpos (keywordEach [] X.env)).all (fun x => x.1.isSome) && decide (([b] : List PySem.Expr).length + ([] : List Keyword).length + (if ([] : List Keyword).isEmpty then 0 else 1) < 30)) = true := by rfl)
    (hline : (apos.endLine == cpos.line) = true := by rfl) (hs : starEach [b] X.env = (false, eval b X.env) :: starEach [] X.env := by rfl) (hplain : (backTo cpos (starEach [] X.env)).any (·.1) = false := by rfl) :
    PE X (.Call (.Attribute a "index" apos) [b] [] cpos) (tE c E (eLm vIndexL fa fb)) :=
  d_lm PySem.F.slot_list_index PySem.F.type_list_index (mt_indexZ hu) (fun x y H S ds e o Q s hx hy hg q => by
    unfold vIndexL at hg
    split at hg
    · rename_i h
      rw [Bool.and_eq_true, Bool.and_eq_true, decide_eq_true_iff] at h
      obtain ⟨j, hj, rfl⟩ := Option.map_eq_some_iff.mp hg
      obtain ⟨p, xs, rfl, hp, hd⟩ := hx.lst s
      refine ⟨p, y, toD e, toDs ds, j, rfl, rfl, ?_, ?_, plain_ds h.1.2, plain_d h.1.1, h.2, hj, q _ (.int _)⟩
      · rw [hK]; exact hx.dz s (plain_z (d := .lst ds) h.1.2)
      · rw [hK]; exact DW.dz s (.inl hy) (plain_z h.1.1)
    · cases hg) hK ha hb hbase hfew hline hs hplain
/-! ### pops -/
/-- x.pop() as a statement -/
def mPop (i : Nat) : Sm := fun η => onLst i η fun xs => if xs = [] then none else some xs.dropLast
theorem s_pop (hi : i ∈ c.ow) (hv : PE X (.Name x px) (tVar i)) (hbase : attributeBase (.Name x px) "pop" X.env (eval (.Name x px) X.env) = eval (.Name x px) X.env := by rfl) (hline : (apos.endLine == cpos.line) = true := by rfl)
    (hsw : swapsWith (.Call (.Attribute (.Name x px) "pop" apos) [] [] cpos) Option.none pos.line X.env = pure false := by rfl) :
    PS X (.Expr (.Call (.Attribute (.Name x px) "pop" apos) [] [] cpos) pos) (tS c E (mPop i)) :=
  ps_imp (ps_expr (pe_bm0 PySem.F.plainAttrs_list PySem.F.slot_list_pop PySem.F.type_list_pop mt_pop hv hbase hline) hsw) fun D σ H ⟨η, S, n, r, d, al⟩ => by
    obtain ⟨xs, ys, e1, e2, q⟩ := on_lst al
    split at e2
    · cases e2
    · rename_i hne
      cases e2
      obtain ⟨l, vs, h1, h2, h3, h4⟩ := r.lst hi e1
      have hl := h3.len
      have hpos : 0 < xs.length := List.length_pos_iff.mpr hne
      have hv : vs[vs.length - 1]? = some (vs[vs.length - 1]'(by omega)) := List.getElem?_eq_getElem _
      have h5 : DVs c.K c.cl S vs.dropLast xs.dropLast := by
        rw [List.dropLast_eq_take, List.dropLast_eq_take, hl]
        exact h3.take _
      obtain ⟨r2, d2⟩ := h4 h5 d
      exact ⟨_, h1, .inl ⟨rfl, _, SqL.of h2⟩, l, vs, _, rfl, rfl, h2, hv, q σ _ S r2 d2 (Sub.refl _)⟩
/-- y.pop(e), put at a key of x -/
def popAt (j : Nat) (k : Int) (η : Env) : Option (Val × Env) := match η[j]? with
  | some (some (.lst xs)) => if xs.length ≤ 1000000 then (ixN xs.length k).bind fun n => xs[n]?.map fun d => (d, η.set j (some (.lst (xs.eraseIdx n)))) else none
  | _ => none
def mPutPop (i j : Nat) (fk f : Ev) : Sm := fun η => isLst j η ((f η).hd (fun d => match d with
  | .int k => (ofO (popAt j k η)).bind fun q => isDic i q.2 ((fk q.2).hd (fun z => match keyOf z with | some ky => onDic i q.2 fun xs => if xs.length < 1000000 then some (putD xs ky q.1) else none | none => .bad) fun e => .ret (.ex e q.2))
  | _ => .bad) fun e => .ret (.ex e η))
theorem s_putPop {py tpos : Pos} (hu : X.A.units + 1 < cLine) (hij : i ≠ j) (hi : i ∈ c.ow) (hj : j ∈ c.ow) (hv : PE X (.Name x px) (tVar i)) (hv2 : PE X (.Name y py) (tVar j)) (ha : PE X a (tE c E f)) (hb : PE X b (tE c E fb))
    (hbase : attributeBase (.Name y py) "pop" X.env (eval (.Name y py) X.env) = eval (.Name y py) X.env := by rfl)
    (hfew : ((backTo cpos (starEach [a] X.env)).all (fun x => !x.1) && (backToKw cpos (keywordEach [] X.env)).all (fun x => x.1.isSome) && decide (([a] : List PySem.Expr).length + ([] : List Keyword).length + (if ([] : List Keyword).isEmpty then 0 else 1) < 30)) = true := by rfl)
    (hline : (apos.endLine == cpos.line) = true := by rfl) (hs : starEach [a] X.env = (false, eval a X.env) :: starEach [] X.env := by rfl) (hplain : (backTo cpos (starEach [] X.env)).any (·.1) = false := by rfl)
    (hsw : swapsWith (.Call (.Attribute (.Name y py) "pop" apos) [a] [] cpos) (some (.Subscript (.Name x px) b tpos)) pos.line X.env = pure false := by rfl) :
    PS X (.Assign [.Subscript (.Name x px) b tpos] (.Call (.Attribute (.Name y py) "pop" apos) [a] [] cpos) pos) (tS c E (mPutPop i j fb f)) :=
  ps_imp (ps_dput hu hv hb (pe_bm PySem.F.plainAttrs_list PySem.F.slot_list_pop PySem.F.type_list_pop mt_popAt hv2 (pa_cons ha pa_nil hs) hbase hfew hline hs hplain) hsw) fun D σ H ⟨η, S, n, r, d, al⟩ => by
    obtain ⟨⟨xs0, e0⟩, al⟩ := is_lst al
    obtain ⟨l, ys, h1, h2, _⟩ := r.lst hj e0
    refine ⟨_, h1, .inl ⟨rfl, _, SqL.of h2⟩, η, S, n, r, d, all_mono (all_hd.mp al) (fun d1 k q v H1 S1 g1 d1' hv1 => ?_) fun e k q => Thrown.of (D := D) r q⟩
    cases d1 with
    | int kk =>
      cases hv1
      have r1 := r.grow g1
      obtain ⟨⟨it, η'⟩, e2, q⟩ := all_ofO.mp (all_bind.mp q)
      unfold popAt at e2
      rw [e0] at e2
      simp only at e2
      split at e2
      case isFalse => cases e2
      rename_i hz
      cases hn : ixN xs0.length kk with
      | none => rw [hn] at e2; cases e2
      | some nn =>
        rw [hn] at e2
        obtain ⟨dd, hd, e3⟩ := Option.map_eq_some_iff.mp (show (xs0[nn]?).map _ = _ from e2)
        cases e3
        obtain ⟨l', vs, h1', h2', h3, h4⟩ := r1.lst hj e0
        rw [h1] at h1'
        cases h1'
        obtain ⟨w, hw, hw2⟩ := h3.get hd
        obtain ⟨hn1, hn2, hn3, hn4⟩ := ixN_seq hn
        obtain ⟨r2, d2⟩ := h4 (DVs.erase nn h3) d1'
        have hl := h3.len
        refine ⟨l, vs, kk, nn, w, rfl, rfl, h2', by omega, by omega, by rw [hl]; exact hn1, hw, ?_⟩
        obtain ⟨⟨ks0, ek⟩, q⟩ := is_dic q
        obtain ⟨dl, kvs, k1, k2, _⟩ := r2.dic hi ek
        refine ⟨_, k1, _, S1, _, r2, d2, all_mono (all_hd.mp q) (fun z k q y H2 S2 g2 d2' hy => ?_) fun e k q => Thrown.of (D := D) r2 (OutOk.up g1.up (show OutOk c E D S k _ from q))⟩
        split at q
        · rename_i ky hk
          obtain ⟨xs', ys', e1, e2, q⟩ := on_dic q
          split at e2
          · cases e2
            obtain ⟨dl', vs', k1', k2', k3, k4⟩ := (r2.grow g2).dic hi e1
            rw [k1] at k1'
            cases k1'
            have hl := k3.len
            obtain ⟨r3, d3⟩ := k4 (put_dv (k := ky) (hw2.mono g2.up) k3) d2'
            refine ⟨_, _, rfl, ?_, q σ _ S2 r3 d3 (g1.up.trans g2.up)⟩
            rw [key_v (c := c) (S := S2) (H := H2) (.inl hy) hk]
            exact DPut.k k2' (by rw [sizeLine_eq]; omega)
          · cases e2
        · exact q.elim
    | _ => exact (show False from q).elim
end
section
variable {η : Env} {n : Nat} {fa fb : Ev} {QO : Out → Nat → Prop} {Q : Val → Nat → Prop} {E : Err → Nat → Prop} {i : Nat}
theorem u_lm {g : List Val → Val → Option Val} (h : Al (fa η) n (fun x a => ∃ ds, x = .lst ds ∧ Al (fb η) a (fun y b => ∃ o, g ds y = some o ∧ Q o b) E) E) : Al (eLm g fa fb η) n Q E := by
  simp only [al_eq] at *
  exact all_bind.mpr (all_mono h (fun x a ⟨ds, e, q⟩ => by subst e; exact all_bind.mpr (all_mono q (fun y b q => all_ofO.mpr q) fun _ _ t => t)) fun _ _ t => t)
instance wu_lm {g : List Val → Val → Option Val} : WP (Al (eLm g fa fb η) n Q E) (Al (fa η) n (fun x a => ∃ ds, x = .lst ds ∧ Al (fb η) a (fun y b => ∃ o, g ds y = some o ∧ Q o b) E) E) := ⟨u_lm⟩
theorem u_pop {xs : List Val} {F : Option Val → Env} [a : GetE η i (.lst xs)] [g : SetE η i F] (h : xs ≠ [] ∧ QO (.nx (F (some (.lst xs.dropLast)))) n) : Al (mPop i η) n QO E := by
  refine al_of ?_
  have e : mPop i η = .ret (.nx (F (some (.lst xs.dropLast)))) := by
    unfold mPop onLst
    rw [a.get]
    simp only
    rw [if_neg h.1]
    simp only
    rw [g.set]
  rw [e]
  exact h.2
instance wu_pop {xs : List Val} {F : Option Val → Env} [GetE η i (.lst xs)] [SetE η i F] : WP (Al (mPop i η) n QO E) (xs ≠ [] ∧ QO (.nx (F (some (.lst xs.dropLast)))) n) := ⟨u_pop⟩
end
section
variable {α : Type} {enc : α → Val} {k : Nat}
theorem vCountL_enc (enc : α → Val) [DecidableEq α] [h : Enc enc k] (l : List α) (a : α) (hk : k ≤ 60 := by decide) : vCountL (l.map enc) (enc a) = some (.int (l.count a : Nat)) := by
  have hd := h.dp a
  unfold vCountL
  rw [h.pl, plains_map, decide_eq_true (by omega : (toD (enc a)).depth ≤ 60)]
  show some (Val.int (((toDs (l.map enc)).countP fun z => PyData.eqv z (toD (enc a)) : Nat) : Int)) = _
  congr 2
  rw [toDs_mapE, List.countP_map]
  unfold List.count
  congr 2
  funext b
  show PyData.eqv (toD (enc b)) (toD (enc a)) = (b == a)
  rw [Bool.eq_iff_iff, h.ev, beq_iff_eq]
theorem vIndexL_enc (enc : α → Val) [DecidableEq α] [h : Enc enc k] (l : List α) (a : α) (ha : a ∈ l) (hk : k ≤ 60 := by decide) : vIndexL (l.map enc) (enc a) = some (.int (l.idxOf a : Nat)) := by
  have hd := h.dp a
  unfold vIndexL
  rw [h.pl, plains_map, decide_eq_true (by omega : (toD (enc a)).depth ≤ 60)]
  show (SeqAt.dataPlace (toDs (l.map enc)) (toD (enc a))).map (fun j => Val.int (j : Nat)) = _
  have e : SeqAt.dataPlace (toDs (l.map enc)) (toD (enc a)) = some (l.idxOf a) := by
    unfold SeqAt.dataPlace
    rw [toDs_mapE, List.findIdx?_map]
    have : ((fun y => PyData.eqv y (toD (enc a))) ∘ fun a => toD (enc a)) = fun b => (b == a) := by
      funext b
      show PyData.eqv (toD (enc b)) (toD (enc a)) = (b == a)
      rw [Bool.eq_iff_iff, h.ev, beq_iff_eq]
    rw [this]
    have := List.findIdx?_eq_some_of_exists (xs := l) (p := fun b => b == a) ⟨a, ha, by simp⟩
    exact this
  rw [e]
  rfl
end
end EV
end
section
set_option Elab.async false
set_option linter.all false
set_option maxRecDepth 100000
set_option maxHeartbeats 4000000
/-! Texts in texts. -/
namespace EV
open PySem PySem.Spec PyProof.Rows L2 XK
section
variable {X : Cx} {c : Ct}
def inT (i j : Str) : Bool := !(Builtin.Str.occurrences j i 0 j.length 1).isEmpty
def vInT : Val → Val → Option Val := fun d e => match d, e with | .str i, .str j => some (.bl (inT i j)) | _, _ => none
theorem sem_inT : Sem2 c (fun x y H Q => ∃ i j, x = .str i ∧ y = .str j ∧ Q (.bl (!(Builtin.Str.occurrences j i 0 j.length 1).isEmpty)) H) vInT := sem_ss (f := fun i j => .bl (!(Builtin.Str.occurrences j i 0 j.length 1).isEmpty)) (gi := fun i j => .bl (inT i j)) fun _ _ _ => .bl _
end
/-- p stands in w at i -/
def stands (w p : List Nat) (i : Nat) : Prop := i + p.length ≤ w.length ∧ (w.drop i).take p.length = p
theorem sub_txt (w p : List Nat) (i : Nat) : Builtin.Str.subAt (txtOf w) (txtOf p) i = true ↔ (w.drop i).take p.length = p := by
  rw [PySem.StrLaws.subAt_eq, beq_iff_eq, txt_len, txt_list, txt_list]
theorem inT_iff (p w : List Nat) : inT (txtOf p) (txtOf w) = true ↔ ∃ i, stands w p i := by
  unfold inT
  rw [PySem.StrLaws.found_iff]
  constructor
  · rintro ⟨i, h1, h2⟩
    rw [txt_len, txt_len] at h1
    exact ⟨i, h1, (sub_txt _ _ _).mp h2⟩
  · rintro ⟨i, h1, h2⟩
    exact ⟨i, by rw [txt_len, txt_len]; exact h1, (sub_txt _ _ _).mpr h2⟩
theorem vInT_txt (p w : List Nat) [Decidable (∃ i, stands w p i)] : vInT (txE p) (txE w) = some (.bl (decide (∃ i, stands w p i))) := by
  show some (Val.bl (inT (txtOf p) (txtOf w))) = _
  congr 2
  rw [Bool.eq_iff_iff, inT_iff, decide_eq_true_iff]
theorem rfind_txt (w p : List Nat) : (gRfind (txtOf w) (txtOf p) = -1 ∧ ∀ i, ¬ stands w p i) ∨ ∃ i : Nat, gRfind (txtOf w) (txtOf p) = (i : Nat) ∧ stands w p i := by
  unfold gRfind
  rcases PySem.StrLaws.last_spec (txtOf w) (txtOf p) with ⟨h1, h2⟩ | ⟨i, h1, h2, h3⟩
  · left
    refine ⟨?_, fun i hi => h2 i ⟨by rw [txt_len, txt_len]; exact hi.1, (sub_txt _ _ _).mpr hi.2⟩⟩
    unfold Txt.rfind
    rw [h1]
  · right
    refine ⟨i, ?_, by have := h2.1; rw [txt_len, txt_len] at this; exact this, (sub_txt _ _ _).mp h2.2⟩
    unfold Txt.rfind
    rw [h1]
theorem find_txt (w p : List Nat) : (gFind (txtOf w) (txtOf p) = -1 ∧ ∀ i, ¬ stands w p i) ∨ ∃ i : Nat, gFind (txtOf w) (txtOf p) = (i : Nat) ∧ stands w p i := by
  unfold gFind
  rcases PySem.StrLaws.occ_head (txtOf w) (txtOf p) 1 (Nat.le_refl _) with ⟨h1, h2⟩ | ⟨i, r, h1, h2, h3⟩
  · left
    refine ⟨?_, fun i hi => h2 i ⟨by rw [txt_len, txt_len]; exact hi.1, (sub_txt _ _ _).mpr hi.2⟩⟩
    unfold Txt.find
    rw [h1]
  · right
    refine ⟨i, ?_, by have := h2.1; rw [txt_len, txt_len] at this; exact this, (sub_txt _ _ _).mp h2.2⟩
    unfold Txt.find
    rw [h1]
section
variable {x f : Str} {v d : Val} {Q : Out → Nat → Prop} {η' : Env} {k : Nat}
instance wu_rnx : WP (onR x d Q (.nx η') k) (Q (.nx η') k) := ⟨id⟩
instance wu_rrt {d' : Val} : WP (onR x d Q (.rt d') k) (Q (.rt d') k) := ⟨id⟩
instance wu_rex : WP (onR x d Q (.ex ⟨x, f, v⟩ η') k) (Q (.rt d) k) := ⟨r_hit⟩
end
end EV
end
section
set_option Elab.async false
set_option linter.all false
set_option maxRecDepth 100000
set_option maxHeartbeats 4000000
/-! sorted of data. -/
namespace EV
open PySem PySem.Spec PyProof.Rows L2 XK PySem.W
def alikeB (ds : List Val) : Bool := ds.all fun d => ds.all fun e => PySem.W.alike (toD d) (toD e)
def headB : Val → Bool
  | .tup (_ :: _) => true
  | _ => false
def flatB : Val → Bool
  | .non => false
  | .tup _ => false
  | .fn _ => false
  | .exc _ _ _ => false
  | _ => true
def sortB (ds : List Val) : Bool := ds.all headB || ds.all flatB
def vSortL (ds : List Val) : List Val := ds.mergeSort (dataLe false toD)
def vSorted (d : Val) : Option (List Val) := match d with
  | .lst ds => if (plains ds && alikeB ds && sortB ds && decide (ds.length ≤ 1000) && decide (PyData.depthAll (toDs ds) ≤ 60)) = true then some (vSortL ds) else none
  | _ => none
section
variable {X : Cx} {c : Ct} {E : L2.St → XK} {a b e : PySem.Expr} {f g fa fb : Ev} {fs : EvL} {pos p : Pos} {es : List PySem.Expr}
theorem each_vals : ∀ {xs : List V} {us : List Value} (ds : List Val), Vals xs us → xs.length = ds.length → EachIs (fun (u : Value) (b : V × Val) => RelV b.1 u) us (xs.zip ds)
  | _, _, [], .nil, _ => .nil
  | _, _, d :: ds, .cons r t, h => .cons r (each_vals ds t (Nat.succ.inj h))
theorem each_reads {pins : List (Addr × Obj)} {σ : L2.St} {H : Hp} {s : Shared} (I : Inv X pins σ H s) : ∀ {xs : List V} {us : List Value} (ds : List Val), Vals xs us → DzA X.K H xs (toDs ds) → EachIs (fun (u : Value) (b : V × Val) => ∃ as, Reads s.heap u (toD b.2) as) us (xs.zip ds)
  | _, _, [], .nil, _ => .nil
  | _, _, d :: ds, .cons r t, h => by
    cases h with
    | cons h1 h2 => exact .cons (Dz.reads I _ _ _ h1 r) (each_reads I ds t h2)
theorem vals_each : ∀ {us : List Value} {zs : List (V × Val)}, EachIs (fun (u : Value) (b : V × Val) => RelV b.1 u) us zs → Vals (zs.map (·.1)) us
  | _, _, .nil => .nil
  | _, _, .cons h t => .cons h (vals_each t)
theorem dza_len {K : PySem.W.Frag} {H : Hp} : ∀ {xs : List V} {ds : List Val}, DzA K H xs (toDs ds) → xs.length = ds.length
  | _, [], h => by cases h; rfl
  | _, d :: ds, h => by
    cases h with
    | cons h1 h2 => rw [List.length_cons, List.length_cons, dza_len h2]
def rSortedZ (K : PySem.W.Frag) : List V → Hp → VK → Prop := fun vs H Q => ∃ (a : Addr) (xs : List V) (ds : List Val), vs = [V.ref a] ∧ SqL K H a xs ∧ DzA K H xs (toDs ds) ∧ alikeB ds = true ∧ sortB ds = true ∧ PyData.depthAll (toDs ds) ≤ 60 ∧
  ∀ zs : List (V × Val), zs.Perm (xs.zip ds) → zs.map (·.2) = vSortL ds → ∀ p, H p = none → Q (.ref p) (upd H p (.lst (zs.map (·.1))))
theorem depth_mem : ∀ {ds : List Val} {d : Val}, d ∈ ds → (toD d).depth ≤ PyData.depthAll (toDs ds)
  | d' :: ds, d, h => by
    show _ ≤ max (toD d').depth (PyData.depthAll (toDs ds))
    rcases List.mem_cons.mp h with rfl | h
    · exact Nat.le_max_left _ _
    · exact Nat.le_trans (depth_mem h) (Nat.le_max_right _ _)
theorem cr_sortedZ (hu : X.A.units + 64 < cLine) : CallR X (.builtin "sorted") (rSortedZ X.K) := by
  intro pins s σ H vs us Q I r h
  obtain ⟨a, xs, ds, rfl, hs, hz, ha, hb, hd, q⟩ := h
  obtain ⟨its, rv, hl, hsz⟩ := I.list hs
  rw [Vals.ref1 r]
  have hlen := dza_len hz
  have em : (xs.zip ds).map (fun b => toD b.2) = ds.map toD := by
    have e1 : (xs.zip ds).map (fun b => toD b.2) = ((xs.zip ds).map Prod.snd).map toD := by rw [List.map_map]; rfl
    rw [e1, List.map_snd_zip (by omega)]
  have hm : ∀ b ∈ xs.zip ds, b.2 ∈ ds := fun b hb => (List.of_mem_zip hb).2
  have hal : AllAlike ((xs.zip ds).map fun b => toD b.2) := by
    rw [em]
    intro d hd' d' hd''
    obtain ⟨x, hx, rfl⟩ := List.mem_map.mp hd'
    obtain ⟨y, hy, rfl⟩ := List.mem_map.mp hd''
    exact List.all_eq_true.mp (List.all_eq_true.mp ha x hx) y hy
  have hk : Sortable ((xs.zip ds).map fun b => toD b.2) := by
    rw [em]
    unfold sortB at hb
    rw [Bool.or_eq_true] at hb
    rcases hb with hb | hb
    · refine .inl fun d hd' => ?_
      obtain ⟨x, hx, rfl⟩ := List.mem_map.mp hd'
      have := List.all_eq_true.mp hb x hx
      match x, this with
      | .tup (y :: r), _ => exact ⟨toD y, toDs r, rfl⟩
    · refine .inr fun d hd' => ?_
      obtain ⟨x, hx, rfl⟩ := List.mem_map.mp hd'
      have := List.all_eq_true.mp hb x hx
      match x, this with
      | .bl _, _ => exact ⟨(by intro z; cases z), by intro _ z; cases z⟩
      | .int _, _ => exact ⟨(by intro z; cases z), by intro _ z; cases z⟩
      | .str _, _ => exact ⟨(by intro z; cases z), by intro _ z; cases z⟩
      | .lst _, _ => exact ⟨(by intro z; cases z), by intro _ z; cases z⟩
      | .dic _, _ => exact ⟨(by intro z; cases z), by intro _ z; cases z⟩
  have hzl : (xs.zip ds).length = xs.length := by rw [List.length_zip]; omega
  refine sorted_data (enc := fun b : V × Val => toD b.2) hl.isList (each_vals ds rv hlen) (each_reads I ds rv hz) hal hk (by rw [hzl]; exact hsz) (fun b hb => by have := depth_mem (hm b hb); omega) fun out ho eo => ?_
  obtain ⟨cc, hc⟩ := sortedAll_at s.heap its out.toArray
  have hv := vals_each eo
  refine ⟨.ref (s.heap.objs.size + 1), upd H (s.heap.objs.size + 1) (.lst (((xs.zip ds).mergeSort (dataLe false fun b : V × Val => toD b.2)).map (·.1))), I.laid (t' := s.toks) (fun _ _ => sortedAll_old) (Nat.le_succ _) ⟨?_, out, cc, hv, hc⟩, rfl, q _ (List.mergeSort_perm _ _) ?_ _ (I.hok.fresh (Nat.le_succ _))⟩
  · rw [List.length_map, List.length_mergeSort, hzl]
    exact hsz
  · have := sort_maps (r := dataLe false fun b : V × Val => toD b.2) (s := dataLe false toD) (Prod.snd) (l := xs.zip ds) fun _ _ _ _ => rfl
    rw [this, List.map_snd_zip (by omega)]
    rfl
/-- sorted(x), a new list -/
def eSorted (f : Ev) : Ev := fun η => (f η).bind fun d => ofO ((vSorted d).map .lst)
theorem dvs_perm {S : Hp} : ∀ {zs : List (V × Val)}, (∀ z ∈ zs, DV c.K c.cl S z.1 z.2) → DVs c.K c.cl S (zs.map (·.1)) (zs.map (·.2))
  | [], _ => .nil
  | z :: zs, h => .cons (h z List.mem_cons_self) (dvs_perm fun y hy => h y (List.mem_cons_of_mem _ hy))
theorem dvs_zip {S : Hp} : ∀ {xs : List V} {ds : List Val}, DVs c.K c.cl S xs ds → ∀ z ∈ xs.zip ds, DV c.K c.cl S z.1 z.2
  | _, _, .nil, z, h => nomatch h
  | _, _, .cons a b, z, h => by
    rcases List.mem_cons.mp h with rfl | h
    · exact a
    · exact dvs_zip b z h
theorem d_sortedN (hu : X.A.units + 64 < cLine) (hK : X.K = c.K) (hg : Gl X "sorted") (hm : X.mg "sorted" = none) (ha : PE X a (tW c E f)) (hs : starEach [a] X.env = (false, eval a X.env) :: starEach [] X.env := by rfl) (hpl : (backTo pos (starEach [] X.env)).any (·.1) = false := by rfl) :
    PE X (.Call (.Name "sorted" p) [a] [] pos) (tN c E (eSorted f)) :=
  pe_imp (pe_callB (cr_sortedZ hu) hg hm (by decide +kernel) (pa_cons ha pa_nil hs) (he := hs) (hpl := hpl)) fun σ H Q ⟨η, S, n, rl, dr, al⟩ => ⟨η, S, n, rl, dr, all_mono (all_bind.mp al) (fun d m q v H1 S1 g1 d1 h1 => by
    obtain ⟨o, e, q⟩ := all_ofO.mp q
    obtain ⟨l, e1, rfl⟩ := Option.map_eq_some_iff.mp e
    unfold vSorted at e1
    split at e1
    · rename_i ds
      split at e1
      · rename_i hc
        cases e1
        simp only [Bool.and_eq_true, decide_eq_true_eq] at hc
        have r1 := rl.grow g1
        obtain ⟨p, xs, rfl, hp, hd⟩ := h1.lst r1.sub
        have hz : DzA X.K H1 xs (toDs ds) := by
          rw [hK]
          exact DzA.sub r1.sub (DVs.dz hd (plains_z hc.1.1.1.1))
        refine ⟨p, xs, ds, rfl, by rw [hK]; exact hp, hz, hc.1.1.1.2, hc.1.1.2, hc.2, fun zs hz1 hz2 l hl => ?_⟩
        have hdv : DVs c.K c.cl S1 (zs.map (·.1)) (zs.map (·.2)) := dvs_perm fun z hz3 => dvs_zip hd z (hz1.mem_iff.mp hz3)
        rw [hz2] at hdv
        exact q l _ S1 (g1.trans (Gr.alloc0 r1.sub hl).d) (d1.sub (Gr.alloc0 r1.sub hl).keep) (rl.none0 g1 hl) (own_new r1 hl hdv)
      · cases e1
    · cases e1) fun _ _ t => t⟩
end
section
variable {η : Env} {n : Nat} {f : Ev} {Q : Val → Nat → Prop} {E : Err → Nat → Prop}
theorem u_sorted (h : Al (f η) n (fun d k => ∃ l, vSorted d = some l ∧ Q (.lst l) k) E) : Al (eSorted f η) n Q E := by
  simp only [al_eq] at *
  exact all_bind.mpr (all_mono h (fun d k ⟨l, e, q⟩ => by rw [e]; exact q) fun _ _ t => t)
instance wu_sorted : WP (Al (eSorted f η) n Q E) (Al (f η) n (fun d k => ∃ l, vSorted d = some l ∧ Q (.lst l) k) E) := ⟨u_sorted⟩
end
end EV
end
section
set_option Elab.async false
set_option linter.all false
set_option maxRecDepth 100000
set_option maxHeartbeats 4000000
/-! sum of lists, from a list on. -/
namespace XK
open PySem PySem.Spec PyProof.Rows L2
def flatN (cs : Nat → List Value) : Nat → Nat → List Value
  | _, 0 => []
  | i, k + 1 => cs i ++ flatN cs (i + 1) k
theorem size_upd (h : Heap) (a : Addr) (f : Obj → Obj) : (h.update a f).objs.size = h.objs.size := (Heap.SameBut.update h a f).1
section
variable {prog : Program} {w : World} {A : Around} {E : Value → Shared → Prop} {s : Shared}
theorem cat_plain {l b : Addr} {xs ys : List Value} {Q : Value → Shared → Prop} (hl : PlainL s.heap l xs.toArray) (hb : PlainL s.heap b ys.toArray) (hz : xs.length + ys.length ≤ sizeLine)
    (h : Q (.ref s.heap.objs.size) { s with heap := s.heap.push { cls := .type "list", data := .seq (xs ++ ys).toArray } }) : wpAny (model prog w) A (binaryOp .Add (.ref l) (.ref b)) Q E s := by
  obtain ⟨⟨c1, d1, dt1, s1⟩, n, ho, hc, _, hd⟩ := hl
  obtain ⟨⟨c2, d2, dt2, s2⟩, n2, ho2, hc2, _, hd2⟩ := hb
  simp only at hc hd hc2 hd2
  subst hc hd hc2 hd2
  have e : xs.toArray ++ ys.toArray = (xs ++ ys).toArray := by simp
  refine concat_meets ⟨_, ho, rfl⟩ ⟨_, ho2, rfl⟩ noFill_list_add seq_list_add PySem.F.slot_list_add PySem.F.entry_list_add (PySem.F.args_list_add_2 _ _) (list_addW l b xs.toArray ys.toArray n n2 d1 d2 s1 s2 (by simp; omega)) ⟨ho, ho2, ?_⟩
  rw [e]
  exact h
theorem args_sum2 (a b : Value) : argsOk "sum" ⟨[a, b], []⟩ := by unfold argsOk; kernel_rfl
section
variable {R : Result → Shared → Prop} {I ax S : Addr} {items : List Value} {n : Nat} {ad : Nat → Addr} {cs : Nat → List Value}
theorem code_sumLL (hh : A.handled = none) (hne : ax ≠ I) (hSI : S ≠ I) (hSa : S ≠ ax) (hn : items.length = n) (hit : ∀ j, j < n → items[j]? = some (.ref (ad j)) ∧ ad j ≠ I ∧ ad j ≠ S) :
    ∀ (k i : Nat) (s : Shared) (acc : Addr) (ca : List Value) (c : Nat), n - i = k → i ≤ n → s.heap.IsListIter I ax i → s.heap.IsList ax items.toArray → s.heap.get? S = some { cls := .type "list", dict := none, data := .seq #[.ref acc] c, slots := #[] } →
    PlainL s.heap acc ca.toArray → acc ≠ I → acc ≠ S → (∀ j, j < n → PlainL s.heap (ad j) (cs j).toArray) → ca.length + (flatN cs i k).length ≤ sizeLine →
    (∀ h' tk acc', (∀ b o, b ≠ I → b ≠ S → s.heap.get? b = some o → h'.get? b = some o) → (k = 0 → acc' = acc) → (k ≠ 0 → s.heap.objs.size ≤ acc' ∧ ∃ m, h'.get? acc' = some { cls := .type "list", data := .seq (ca ++ flatN cs i k).toArray m }) → R (.ok (.ret (.ref acc'))) { s with heap := h', toks := tk }) →
    codeAny (model prog w) A (.builtin "sum.loop" ⟨[.ref I, .ref S, rawInt 2, rawInt 0], []⟩) R s := by
  intro k
  induction k with
  | zero =>
    intro i s acc ca c hk hi st hl hS ha haI haS hc hz hR
    have hin : i = n := by omega
    subst hin
    refine codeAny_builtin F.entry_sum_loop ?_
    rw [Around.under_plainId F.plain_sum_loop _]
    show wpAny _ A.in1 (seqItems? (.ref S) >>= _) _ _ s
    refine wpAny_bind (wpAny_seqItems hS rfl ?_)
    show wpAny _ A.in1 (tryCatch (pyNext (.ref I)) _ >>= _) _ _ s
    refine wpAny_bind (wpAny_tryCatch (wpAny_pyNext_list_end hh st hl (by simp [hn]) fun h' he => ?_))
    exact wpAny_pure (hR h' s.toks acc (fun b o hb _ e => he b o hb e) (fun _ => rfl) fun q => absurd rfl q)
  | succ k ih =>
    intro i s acc ca c hk hi st hl hS ha haI haS hc hz hR
    have hlt : i < n := by omega
    obtain ⟨hx, hxI, hxS⟩ := hit i hlt
    refine codeAny_builtin F.entry_sum_loop ?_
    rw [Around.under_plainId F.plain_sum_loop _]
    show wpAny _ A.in1 (seqItems? (.ref S) >>= _) _ _ s
    refine wpAny_bind (wpAny_seqItems hS rfl ?_)
    show wpAny _ A.in1 (tryCatch (pyNext (.ref I)) _ >>= _) _ _ s
    refine wpAny_bind (wpAny_tryCatch (wpAny_pyNext_list_item st hl (x := .ref (ad i)) (by simpa using hx) fun h' st' sb => ?_))
    have kp : ∀ b o, b ≠ I → s.heap.get? b = some o → h'.get? b = some o := fun b o hb e => (sb.2 b hb).trans e
    have kpP : ∀ b xs, b ≠ I → PlainL s.heap b xs → PlainL h' b xs := fun b xs hb ⟨o, m, e, r⟩ => ⟨o, m, kp b o hb e, r⟩
    have hS' := kp S _ hSI hS
    have hlen : ca.length + (cs i).length ≤ sizeLine := by
      have : (flatN cs i (k + 1)).length = (cs i).length + (flatN cs (i + 1) k).length := by
        show (cs i ++ flatN cs (i + 1) k).length = _
        rw [List.length_append]
      omega
    show wpAny _ A.in1 ((holding [Value.ref (ad i)] (binaryOp .Add (.ref acc) (.ref (ad i)))).attempt >>= _) _ _ _
    refine wpAny_bind (wpAny_attempt (wpAny_holding (cat_plain (xs := ca) (ys := cs i) (kpP _ _ haI ha) (kpP _ _ hxI (hc i hlt)) hlen ?_)))
    show wpAny _ A.in1 (updateSeq S (fun _ => #[.ref h'.objs.size]) >>= _) _ _ _
    refine wpAny_bind ?_
    have hpush := Heap.get?_push_size h' (o := { cls := .type "list", data := .seq (ca ++ cs i).toArray }) rfl
    have kq : ∀ b o, h'.get? b = some o → (h'.push { cls := .type "list", data := .seq (ca ++ cs i).toArray }).get? b = some o := fun b o e => Heap.get?_push_of_some _ e
    have hsz : (h'.push { cls := .type "list", data := .seq (ca ++ cs i).toArray }).objs.size = h'.objs.size + 1 := Heap.size_push _ _
    generalize h'.push { cls := .type "list", data := .seq (ca ++ cs i).toArray } = h2 at hpush kq hsz
    have hS1 := kq S _ hS'
    refine wpAny_updateSeq hS1 rfl ?_
    have hS2 := Heap.get?_update_self (Obj.mapSeq fun _ => #[Value.ref h'.objs.size]) hS1 rfl
    refine wpAny_bind (wpAny_letGo ?_)
    refine wpAny_bind ?_
    have hnS : h'.objs.size ≠ S := Nat.ne_of_gt (Heap.lt_size hS')
    obtain ⟨oI, eI, _⟩ := id st'
    have hnI : h'.objs.size ≠ I := Nat.ne_of_gt (Heap.lt_size eI)
    refine wpAny_updateSeq hS2 rfl ?_
    have hS3 := Heap.get?_update_self (Obj.mapSeq fun _ => #[Value.ref h'.objs.size]) hS2 rfl
    have k3 : ∀ b o, b ≠ S → h2.get? b = some o → ((h2.update S (Obj.mapSeq fun _ => #[Value.ref h'.objs.size])).update S (Obj.mapSeq fun _ => #[Value.ref h'.objs.size])).get? b = some o := fun b o hb e =>
      ((Heap.get?_update_other _ _ (Ne.symm hb)).trans (Heap.get?_update_other _ _ (Ne.symm hb))).trans e
    have sz3 : ((h2.update S (Obj.mapSeq fun _ => #[Value.ref h'.objs.size])).update S (Obj.mapSeq fun _ => #[Value.ref h'.objs.size])).objs.size = h'.objs.size + 1 := by rw [size_upd, size_upd, hsz]
    have kk : ∀ b o, b ≠ I → b ≠ S → s.heap.get? b = some o → ((h2.update S (Obj.mapSeq fun _ => #[Value.ref h'.objs.size])).update S (Obj.mapSeq fun _ => #[Value.ref h'.objs.size])).get? b = some o := fun b o h1 h2 e => k3 b o h2 (kq b o (kp b o h1 e))
    generalize (h2.update S (Obj.mapSeq fun _ => #[Value.ref h'.objs.size])).update S (Obj.mapSeq fun _ => #[Value.ref h'.objs.size]) = h3 at hS3 k3 sz3 kk
    have hnew := k3 _ _ hnS hpush
    refine wpAny_pure ⟨plainId_quiet F.plain_sum_loop _, ih (i + 1) _ h'.objs.size (ca ++ cs i) _ (by omega) hlt ?_ ?_ hS3 ⟨_, _, hnew, rfl, rfl, rfl⟩ hnI hnS (fun j hj => ?_) ?_ fun h'' tk'' acc' hk'' h0 h1 => ?_⟩
    · obtain ⟨o, e, r⟩ := st'
      exact ⟨o, k3 I o (Ne.symm hSI) (kq I o e), r⟩
    · obtain ⟨o, e, r⟩ := hl
      exact ⟨o, kk ax o hne (Ne.symm hSa) e, r⟩
    · obtain ⟨_, h1, h2⟩ := hit j hj
      obtain ⟨o, m, e, r⟩ := hc j hj
      exact ⟨o, m, kk _ o h1 h2 e, r⟩
    · have : (flatN cs i (k + 1)).length = (cs i).length + (flatN cs (i + 1) k).length := by
        show (cs i ++ flatN cs (i + 1) k).length = _
        rw [List.length_append]
      rw [List.length_append]
      omega
    · refine hR h'' tk'' acc' (fun b o h1 h2 e => hk'' b o h1 h2 (kk b o h1 h2 e)) (fun q => absurd q (by omega)) fun _ => ?_
      have e2 : ca ++ flatN cs i (k + 1) = ca ++ cs i ++ flatN cs (i + 1) k := by
        show ca ++ (cs i ++ flatN cs (i + 1) k) = _
        rw [List.append_assoc]
      rw [e2]
      have hs := sb.1
      by_cases hk0 : k = 0
      · subst hk0
        rw [h0 rfl]
        rw [show flatN cs (i + 1) 0 = [] from rfl, List.append_nil]
        exact ⟨by omega, _, hk'' _ _ hnI hnS hnew⟩
      · obtain ⟨q1, q2⟩ := h1 hk0
        exact ⟨by show s.heap.objs.size ≤ acc'; have : h3.objs.size ≤ acc' := q1; omega, q2⟩
end
theorem sum_lists {ax b : Addr} {items : List Value} {cb : List Value} {ad : Nat → Addr} {cs : Nat → List Value} {Q : Value → Shared → Prop} (hh : A.handled = none) (hl : s.heap.IsList ax items.toArray) (hb : PlainL s.heap b cb.toArray)
    (hit : ∀ j, j < items.length → items[j]? = some (.ref (ad j)) ∧ PlainL s.heap (ad j) (cs j).toArray) (hz : cb.length + (flatN cs 0 items.length).length ≤ sizeLine)
    (h : ∀ h' tk acc', (∀ x o, s.heap.get? x = some o → h'.get? x = some o) → (items = [] → acc' = b) → (items ≠ [] → s.heap.objs.size ≤ acc' ∧ ∃ m, h'.get? acc' = some { cls := .type "list", data := .seq (cb ++ flatN cs 0 items.length).toArray m }) → Q (.ref acc') { s with heap := h', toks := tk }) :
    wpAny (model prog w) A (call (.builtin "sum") [.ref ax, .ref b]) Q E s := by
  refine call_function_tree F.kind_sum F.plain_sum F.entry_sum (args_sum2 _ _) ?_
  unfold Builtin.«sum»
  simp only [List.length_cons, List.length_nil]
  rw [if_neg (by decide)]
  refine wpAny_bind (wpAny_of_eq (show Builtin.Builtins.bindParams "sum" ["start"] 0 { pos := [.ref b] } = pure [some (.ref b)] from rfl) ?_)
  refine wpAny_bind (wpAny_pyIter_list hl ?_)
  refine wpAny_bind (wpAny_pure ?_)
  simp only [List.forIn_cons, List.forIn_nil]
  obtain ⟨ol, nl, eb, cl⟩ := id hb
  have tb : ∀ h' tk, (∀ x o, s.heap.get? x = some o → h'.get? x = some o) → ({ s with heap := h', toks := tk } : Shared).TypeIs (.ref b) "list" := fun h' tk k => ⟨_, k _ _ eb, cl.1⟩
  have k1 : ∀ x o, s.heap.get? x = some o → (s.heap.push { cls := .type "list_iterator", data := .fields #[.ref ax, .int 0 0] }).get? x = some o := fun x o e => Heap.get?_push_of_some _ e
  have hI := Heap.get?_push_size s.heap (o := { cls := .type "list_iterator", data := .fields #[.ref ax, .int 0 0] }) rfl
  have sI : (s.heap.push { cls := .type "list_iterator", data := .fields #[.ref ax, .int 0 0] }).objs.size = s.heap.objs.size + 1 := Heap.size_push _ _
  have hli := hl.push { cls := .type "list_iterator", data := .fields #[.ref ax, .int 0 0] }
  have hit' : (s.heap.push { cls := .type "list_iterator", data := .fields #[.ref ax, .int 0 0] }).IsListIter s.heap.objs.size ax 0 := ⟨_, hI, rfl, rfl⟩
  generalize s.heap.push { cls := .type "list_iterator", data := .fields #[.ref ax, .int 0 0] } = h1 at k1 hI sI hli hit'
  have t1 := tb h1 s.toks k1
  refine wpAny_bind (wpAny_bind (wpAny_bind (wpAny_isInstance (T := "list") (b := false) t1 PySem.F.sub_list_str ?_)))
  simp only [Bool.false_eq_true, if_false]
  refine wpAny_pure (wpAny_bind (wpAny_bind (wpAny_isInstance (T := "list") (b := false) t1 PySem.F.sub_list_bytes ?_)))
  simp only [Bool.false_eq_true, if_false]
  refine wpAny_pure (wpAny_bind (wpAny_bind (wpAny_isInstance (T := "list") (b := false) t1 PySem.F.sub_list_bytearray ?_)))
  simp only [Bool.false_eq_true, if_false]
  refine wpAny_pure (wpAny_pure ?_)
  refine wpAny_bind (wpAny_newObj_type ?_)
  have lt : ∀ {x o}, s.heap.get? x = some o → x < s.heap.objs.size := fun e => Heap.lt_size e
  have hax : ax < s.heap.objs.size := by obtain ⟨_, e, _⟩ := hl; exact lt e
  have hbl : b < s.heap.objs.size := lt eb
  have hS := Heap.get?_push_size h1 (o := { cls := .type "list", dict := none, data := .seq #[.ref b] }) rfl
  have k2 : ∀ x o, h1.get? x = some o → (h1.push { cls := .type "list", dict := none, data := .seq #[.ref b] }).get? x = some o := fun x o e => Heap.get?_push_of_some _ e
  have s2 : (h1.push { cls := .type "list", dict := none, data := .seq #[.ref b] }).objs.size = h1.objs.size + 1 := Heap.size_push _ _
  have kk : ∀ x o, s.heap.get? x = some o → (h1.push { cls := .type "list", dict := none, data := .seq #[.ref b] }).get? x = some o := fun x o e => k2 x o (k1 x o e)
  have n1 : ax ≠ s.heap.objs.size := Nat.ne_of_lt hax
  have n2 : h1.objs.size ≠ s.heap.objs.size := by rw [sI]; exact Nat.succ_ne_self _
  have nf : ∀ {x : Addr}, x < s.heap.objs.size → x ≠ h1.objs.size := fun q => by rw [sI]; exact Nat.ne_of_lt (Nat.lt_succ_of_lt q)
  have n3 : h1.objs.size ≠ ax := (nf hax).symm
  have n4 : b ≠ s.heap.objs.size := Nat.ne_of_lt hbl
  have n5 : b ≠ h1.objs.size := nf hbl
  refine wpAny_pure ⟨plainId_quiet F.plain_sum_loop _, code_sumLL (S := h1.objs.size) (I := s.heap.objs.size) (ax := ax) (items := items) (n := items.length) (ad := ad) (cs := cs) hh n1 n2 n3 rfl (fun j hj => ?_) items.length 0 _ b cb _ rfl (Nat.zero_le _) ?_ ?_ hS ?_ n4 n5 (fun j hj => ?_) hz fun h' tk acc' hk h0 h1' => ?_⟩
  · obtain ⟨e, o, m, e2, _⟩ := hit j hj
    exact ⟨e, Nat.ne_of_lt (lt e2), nf (lt e2)⟩
  · obtain ⟨o, e, r⟩ := hit'
    exact ⟨o, k2 _ _ e, r⟩
  · obtain ⟨o, e, r⟩ := hli
    exact ⟨o, k2 _ _ e, r⟩
  · obtain ⟨o, m, e, r⟩ := hb
    exact ⟨o, m, kk _ _ e, r⟩
  · obtain ⟨_, o, m, e, r⟩ := hit j hj
    exact ⟨o, m, kk _ _ e, r⟩
  · refine h h' tk acc' (fun x o e => ?_) (fun q => h0 (by rw [q]; rfl)) fun q => ?_
    · exact hk x o (Nat.ne_of_lt (lt e)) (nf (lt e)) (kk x o e)
    · obtain ⟨q1, q2⟩ := h1' (fun e => q (List.eq_nil_of_length_eq_zero e))
      exact ⟨Nat.le_trans (by rw [s2, sI]; omega) q1, q2⟩
end
end XK
end
section
set_option Elab.async false
set_option linter.all false
set_option maxRecDepth 100000
set_option maxHeartbeats 4000000
/-! sum of lists. -/
namespace EV
open PySem PySem.Spec PyProof.Rows L2 XK
section
variable {X : Cx} {c : Ct} {E : L2.St → XK} {a b e : PySem.Expr} {f g fa fb : Ev} {fs : EvL} {pos p : Pos} {es : List PySem.Expr}
def lstsOf : List Val → Option (List (List Val))
  | [] => some []
  | .lst xs :: r => (lstsOf r).map (xs :: ·)
  | _ :: _ => none
def vSumL : Val → Option (List Val)
  | .lst xs => (lstsOf xs).bind fun yss => if yss.flatten.length ≤ 1000000 then some yss.flatten else none
  | _ => none
inductive Lsts (K : PySem.W.Frag) (H : Hp) : List V → List (List V) → Prop
  | nil : Lsts K H [] []
  | cons {q : Addr} {ys : List V} {xs : List V} {yss : List (List V)} : SqL K H q ys → Lsts K H xs yss → Lsts K H (.ref q :: xs) (ys :: yss)
def rSumLL (K : PySem.W.Frag) : List V → Hp → VK → Prop := fun vs H Q => ∃ (a b : Addr) (xs bs : List V) (yss : List (List V)), vs = [V.ref a, V.ref b] ∧ SqL K H a xs ∧ SqL K H b bs ∧ Lsts K H xs yss ∧ bs.length + yss.flatten.length ≤ sizeLine ∧
  (xs = [] → Q (.ref b) H) ∧ (xs ≠ [] → ∀ l, H l = none → Q (.ref l) (upd H l (.lst (bs ++ yss.flatten))))
theorem lsts_get {pins : List (Addr × Obj)} {σ : L2.St} {H : Hp} {s : Shared} (I : Inv X pins σ H s) : ∀ {xs : List V} {yss : List (List V)}, Lsts X.K H xs yss → ∀ {its : List Value}, Vals xs its →
    ∃ (ad : Nat → Addr) (cs : Nat → List Value), (∀ j, j < its.length → its[j]? = some (.ref (ad j)) ∧ PlainL s.heap (ad j) (cs j).toArray) ∧ Vals yss.flatten (flatN cs 0 its.length)
  | _, _, .nil, _, .nil => ⟨fun _ => 0, fun _ => [], fun j h => absurd h (Nat.not_lt_zero _), .nil⟩
  | _, _, .cons (q := q) h1 h2, _, .cons (l₂ := us) r1 r2 => by
    obtain ⟨ad, cs, h3, h4⟩ := lsts_get I h2 r2
    obtain ⟨i1, rv, pl, _⟩ := I.list h1
    cases r1
    have shift : ∀ k i, flatN (fun j => match j with | 0 => i1 | j + 1 => cs j) (i + 1) k = flatN cs i k := by
      intro k
      induction k with
      | zero => intro i; rfl
      | succ k ih => intro i; show cs i ++ _ = cs i ++ _; rw [ih]
    refine ⟨fun j => match j with | 0 => q | j + 1 => ad j, fun j => match j with | 0 => i1 | j + 1 => cs j, fun j hj => ?_, ?_⟩
    · cases j with
      | zero => exact ⟨rfl, pl⟩
      | succ j => exact h3 j (Nat.lt_of_succ_lt_succ hj)
    · show Vals (_ ++ _) (i1 ++ flatN _ 1 us.length)
      rw [shift]
      exact rv.append h4
theorem cr_sumLL (hc : X.calm = true) : CallR X (.builtin "sum") (rSumLL X.K) := by
  intro pins s σ H vs us Q I r h
  obtain ⟨a, b, xs, bs, yss, rfl, ha, hb, hl, hz, q0, q1⟩ := h
  obtain ⟨its, rv, pl, _⟩ := I.list ha
  obtain ⟨itb, rb, pb, _⟩ := I.list hb
  obtain ⟨ad, cs, h1, h2⟩ := lsts_get I hl rv
  obtain ⟨u, v, rfl, e1, e2⟩ := vals2 r
  cases e1
  cases e2
  have hlen := (rb.append h2).length
  rw [List.length_append, List.length_append] at hlen
  refine sum_lists (I.ok.hd hc) pl.isList pb h1 (by omega) fun h' tk acc' kp h3 h4 => ?_
  by_cases he : its = []
  · rw [h3 he]
    exact ⟨.ref _, H, I.kept kp, rfl, q0 (rv.nil_iff.mp he)⟩
  · obtain ⟨hsz, m, e⟩ := h4 he
    exact ⟨.ref _, _, I.laid (t' := tk) (o := .lst (bs ++ yss.flatten)) kp hsz ⟨by rw [List.length_append]; exact hz, _, _, rb.append h2, e⟩, rfl, q1 (fun z => he (rv.nil_iff.mpr z)) _ (I.hok.fresh hsz)⟩
/-- sum(x, []), a new list -/
def eSumL (f : Ev) : Ev := fun η => (f η).bind fun d => ofO ((vSumL d).map .lst)
theorem lsts_dv {S H : Hp} (s : Sub S H) : ∀ {xs : List V} {ds : List Val} {dss : List (List Val)}, DVs c.K c.cl S xs ds → lstsOf ds = some dss → ∃ yss, Lsts c.K H xs yss ∧ DVs c.K c.cl S yss.flatten dss.flatten
  | _, _, _, .nil, e => by cases e; exact ⟨[], .nil, .nil⟩
  | _, d :: ds, dss, .cons h1 h2, e => by
    cases h1 with
    | lst hq hd =>
      cases w : lstsOf ds with
      | none => rw [lstsOf, w] at e; cases e
      | some r =>
        rw [lstsOf, w] at e
        cases e
        obtain ⟨yss, h3, h4⟩ := lsts_dv s h2 w
        exact ⟨_, .cons (Same.seq s hq) h3, hd.append h4⟩
    | _ => cases e
theorem d_sumL {lp : Pos} (hc : X.calm = true) (hK : X.K = c.K) (hg : Gl X "sum") (hm : X.mg "sum" = none) (ha : PE X a (tW c E f)) (hs : starEach [a, .List [] lp] X.env = (false, eval a X.env) :: starEach [.List [] lp] X.env := by rfl)
    (hs2 : starEach [PySem.Expr.List [] lp] X.env = (false, eval (.List [] lp) X.env) :: starEach [] X.env := by rfl) (hpl : (backTo pos (starEach [.List [] lp] X.env)).any (·.1) = false := by rfl) :
    PE X (.Call (.Name "sum" p) [a, .List [] lp] [] pos) (tN c E (eSumL f)) :=
  pe_imp (pe_callB (cr_sumLL hc) hg hm (by decide +kernel) (pa_cons ha (pa_cons (pe_lst pa_nil) pa_nil hs2) hs) (he := hs) (hpl := hpl)) fun σ H Q ⟨η, S, n, rl, dr, al⟩ => ⟨η, S, n, rl, dr, all_mono (all_bind.mp al) (fun d m q v H1 S1 g1 d1 h1 => by
    obtain ⟨o, e, q⟩ := all_ofO.mp q
    obtain ⟨l, e1, rfl⟩ := Option.map_eq_some_iff.mp e
    unfold vSumL at e1
    split at e1
    · rename_i ds
      obtain ⟨dss, e2, e3⟩ := Option.bind_eq_some_iff.mp e1
      split at e3
      · rename_i hlen
        cases e3
        have r1 := rl.grow g1
        obtain ⟨q1, xs, rfl, hp, hd⟩ := h1.lst r1.sub
        refine ⟨Nat.zero_le _, fun b hb => ?_⟩
        have G2 := Gr.alloc0 (o := .lst []) r1.sub hb
        have r2 := r1.grow G2.d
        obtain ⟨yss, h3, h4⟩ := lsts_dv r2.sub hd e2
        have hl4 := h4.len
        rw [hK]
        refine ⟨q1, b, xs, [], yss, rfl, Same.seq (Sub.new hb) hp, SqL.of upd_same, h3, by rw [sizeLine_eq]; simp only [List.length_nil]; omega, fun ex => ?_, fun ne l hl => ?_⟩
        · subst ex
          cases hd
          cases e2
          exact q b _ S1 (g1.trans G2.d) (d1.sub G2.keep) (rl.none0 g1 hb) (own_new r1 hb .nil)
        · have G3 := Gr.alloc0 (o := .lst ([] ++ yss.flatten)) r2.sub hl
          exact q l _ S1 ((g1.trans G2.d).trans G3.d) ((d1.sub G2.keep).sub G3.keep) (rl.none0 (g1.trans G2.d) hl) (own_new r2 hl h4)
      · cases e3
    · cases e1) fun _ _ t => t⟩
/-- not x, as a value, x of any kind -/
def eNotT (f : Ev) : Ev := fun η => (f η).bind fun d => ofO ((truth d).map fun k => .bl (!k))
theorem d_notT (hK : X.K = c.K) (ha : PE X a (tW c E f)) : PE X (.UnaryOp .Not a pos) (tE c E (eNotT f)) :=
  pe_imp (pe_notT ha) fun σ H Q ⟨η, S, n, rl, dr, al⟩ => ⟨η, S, n, rl, dr, all_mono (all_bind.mp al) (fun d m q v H1 S1 g1 dr1 h1 => by
    obtain ⟨o, e, q⟩ := all_ofO.mp q
    obtain ⟨k, e1, rfl⟩ := Option.map_eq_some_iff.mp e
    refine ⟨k, ?_, q _ H1 S1 g1 dr1 (.bl _)⟩
    rw [hK]
    exact truth_v (rl.grow g1).sub h1 e1) fun _ _ t => t⟩
end
section
variable {η : Env} {n : Nat} {f : Ev} {Q : Val → Nat → Prop} {E : Err → Nat → Prop}
theorem u_sumL (h : Al (f η) n (fun d k => ∃ l, vSumL d = some l ∧ Q (.lst l) k) E) : Al (eSumL f η) n Q E := by
  simp only [al_eq] at *
  exact all_bind.mpr (all_mono h (fun d k ⟨l, e, q⟩ => by rw [e]; exact q) fun _ _ t => t)
theorem u_notT (h : Al (f η) n (fun d k => ∃ z, truth d = some z ∧ Q (.bl (!z)) k) E) : Al (eNotT f η) n Q E := by
  simp only [al_eq] at *
  exact all_bind.mpr (all_mono h (fun d k ⟨z, e, q⟩ => by rw [e]; exact q) fun _ _ t => t)
instance wu_notT : WP (Al (eNotT f η) n Q E) (Al (f η) n (fun d k => ∃ z, truth d = some z ∧ Q (.bl (!z)) k) E) := ⟨u_notT⟩
instance wu_sumL : WP (Al (eSumL f η) n Q E) (Al (f η) n (fun d k => ∃ l, vSumL d = some l ∧ Q (.lst l) k) E) := ⟨u_sumL⟩
end
end EV
end
section
set_option Elab.async false
set_option linter.all false
set_option maxRecDepth 100000
set_option maxHeartbeats 4000000
/-! A lambda called in the def that got it, its errors told slot by slot. -/
namespace XK
open PySem PySem.Spec PyProof.Rows L2 LamX
section
variable {X : Cx} {pins : List (Addr × Obj)} {σ : L2.St} {H : Hp} {s : Shared}
/-! ### the code object of a lambda -/
/-- from H on: all stays but the table at P, which may tell more of the name q -/
structure LG (H H1 : Hp) (P : Addr) (q : Str) : Prop where
  keep : ∀ b o, H b = some o → (∀ ps, o ≠ .tbl ps) → H1 b = some o
  dom : ∀ b o, H b = some o → H1 b ≠ none
  own : TabS H1 P q
  oth : ∀ Z r, Z ≠ P → TabS H Z r → TabS H1 Z r
theorem LG.same {H : Hp} {P : Addr} {q : Str} (t : TabS H P q) : LG H H P q :=
  ⟨fun _ _ e _ => e, fun _ o e z => (by rw [e] at z; cases z), t, fun _ _ _ k => k⟩
/-- one more code object, at d -/
theorem LG.one {H : Hp} {P d : Addr} {q : Str} {tab : Array Value} {at_ : Pos} (hP : H P = some (.tbl tab)) (nd : H d = none) (three : TriplesOk tab.toList)
    (old : ∀ (z : Pos) (u : Value), codeAmong z tab.toList = some u → ∃ b, u = .ref b ∧ H b = some (CodeO b q)) :
    LG H (upd (upd H P (.tbl (tab ++ #[rawInt at_.line, rawInt at_.col, .ref d]))) d (CodeO d q)) P q := by
  have dP : d ≠ P := fun z => by rw [z, hP] at nd; cases nd
  have k : ∀ b o, H b = some o → (∀ ps, o ≠ .tbl ps) → upd (upd H P (.tbl (tab ++ #[rawInt at_.line, rawInt at_.col, .ref d]))) d (CodeO d q) b = some o := fun b o e n => by
    have b1 : b ≠ d := fun z => by rw [z, nd] at e; cases e
    have b2 : b ≠ P := fun z => by rw [z, hP] at e; cases e; exact n _ rfl
    rw [upd_ne b1, upd_ne b2, e]
  have kc : ∀ b r, H b = some (CodeO b r) → upd (upd H P (.tbl (tab ++ #[rawInt at_.line, rawInt at_.col, .ref d]))) d (CodeO d q) b = some (CodeO b r) := fun b r e => k b _ e codeO_ne
  have eq : (tab ++ #[rawInt at_.line, rawInt at_.col, .ref d]).toList = tab.toList ++ [rawInt at_.line, rawInt at_.col, .ref d] := by simp
  refine ⟨k, fun b o e z => ?_, ⟨_, (upd_ne (Ne.symm dP)).trans upd_same, by rw [eq]; exact PySem.TriplesOk_snoc _ _ _ _ three, fun z u hz => ?_⟩, fun Z r nZ t => ?_⟩
  · by_cases b1 : b = d
    · rw [b1, upd_same] at z; cases z
    · by_cases b2 : b = P
      · rw [upd_ne b1, b2, upd_same] at z; cases z
      · rw [upd_ne b1, upd_ne b2, e] at z; cases z
  · rw [eq] at hz
    rcases among_app _ three hz with w | w
    · obtain ⟨b, h1, h2⟩ := old z u w
      exact ⟨b, h1, kc b q h2⟩
    · exact ⟨d, w, upd_same⟩
  · obtain ⟨ps, t1, t2, t3⟩ := t
    have Zd : Z ≠ d := fun w => by rw [w, nd] at t1; cases t1
    refine ⟨ps, by rw [upd_ne Zd, upd_ne nZ, t1], t2, fun z u hz => ?_⟩
    obtain ⟨b, h1, h2⟩ := t3 z u hz
    exact ⟨b, h1, kc b r h2⟩
/-- the lambda as a function object, made -/
theorem lam_mk {c P : Addr} {pr : Arguments} {be : Expr} {sc : Scope} {lp : Pos} {B : Value → Shared → Prop} {Q : Value → Shared → Prop} (I : Inv X pins σ H s) (TB : TabB X.base X.mg c P) (hc : X.env.code = .ref c) (tab : TabS H P (X.env.qual ++ "<lambda>")) (nodef : defaultsOf pr X.env = ([], []))
    (seen : ∀ y ∈ sc.names, y.2 = .free → ∃ d, X.env.cells.lookup y.1 = some d)
    (go : ∀ (f d : Addr) (pm tv : Value) (H1 : Hp) (s1 : Shared), Inv X pins σ H1 s1 → LG H H1 P (X.env.qual ++ "<lambda>") →
      s1.heap.get? f = some (PySem.W.kla_obj "<lambda>" (X.env.qual ++ "<lambda>") pr be sc (cloFrom X.env.cells sc.names []) pm d tv) → H1 f = none → f ∉ frs X.stack → H1 d = some (CodeO d (X.env.qual ++ "<lambda>")) → Q (.ref f) s1) :
    wpAny (model X.prog X.w) X.A (eval (.Lambda pr be sc lp) X.env) Q B s := by
  have frame : ∀ f, s.heap.objs.size ≤ f → f ∉ frs X.stack := fun f big z => by
    cases List.mem_cons.mp (I.stkSub _ z) with
    | inl e => exact absurd (e ▸ I.lt) (Nat.not_lt.mpr big)
    | inr e => exact I.nofs big e
  obtain ⟨ps, hP, three, names⟩ := tab
  have tblAt : s.heap.get? P = some { cls := .none, data := .fields ps } := I.hok P _ hP
  have bm := TB.bm.keeps I.bk
  have cd := TB.code.keeps I.bk
  have gl := I.mod.glob.keeps I.bk
  apply PySem.W.kla_eval nodef
  match hit : codeAmong lp ps.toList with
  | some cv =>
    obtain ⟨d, rfl, known⟩ := names lp cv hit
    refine PySem.W.kla_makeFunctionHit (closure_ok seen) I.ok.glob gl hc cd tblAt three hit bm fun tv h1 tk ex big => ?_
    refine go h1.objs.size d _ tv H _ ?_ (LG.same ⟨ps, hP, three, names⟩) (Heap.get?_push_size _ rfl) (I.hok.fresh big) (frame _ big) known
    exact I.kept fun b o e => Heap.get?_push_of_some _ (ex b o e)
  | none =>
    refine PySem.W.kla_makeFunction (closure_ok seen) I.ok.glob gl hc cd tblAt three hit TB.gP bm fun d tv h1 tk ex big lt rec_ tblN => ?_
    obtain ⟨d', oc, vs, t, same, r1, r2, r3⟩ := rec_
    cases same
    have nd : H d = none := I.hok.fresh big
    have big1 : s.heap.objs.size ≤ h1.objs.size := Nat.le_trans big (Nat.le_of_lt lt)
    have f1 : h1.objs.size ≠ d := Nat.ne_of_gt lt
    have f2 : h1.objs.size ≠ P := Nat.ne_of_gt (Nat.lt_of_lt_of_le (Heap.lt_size tblAt) big1)
    refine go h1.objs.size d _ tv _ _ (inv_table (more := #[rawInt lp.line, rawInt lp.col, .ref d]) I hP (fun b o ne e => Heap.get?_push_of_some _ (ex b o ne e)) (Heap.get?_push_of_some _ tblN) big ⟨oc, vs, t, Heap.get?_push_of_some _ r1, r2, r3⟩)
      (LG.one hP nd three names) (Heap.get?_push_size _ rfl) ?_ (frame _ big1) upd_same
    rw [upd_ne f1, upd_ne f2]
    exact I.hok.fresh big1
/-- the def that got the lambda, in a try -/
abbrev Zx (X : Cx) (Ng : List Str) (qg : Str) (sg : Scope) (g : Addr) (cdg : Value) (s : Shared) (H : Hp) (CXg : CXT) (Eg : XK) (pn : List (Addr × Obj)) (xe : Value → Shared → Prop) : Cx := (cxOf CXg X.prog X.w X.K X.mg X.base Ng qg sg g cdg X.A X.stack s H Eg).tr pn xe
theorem act_at {CXg : CXT} {Eg : XK} {Ng : List Str} {qg : Str} {sg : Scope} {g f d : Addr} {cdg pm tv : Value} {pr : Arguments} {be : Expr} {sc : Scope} {k : Nat} {a : Str} {pn : List (Addr × Obj)} {xe : Value → Shared → Prop} {E : L2.St → XK} {tb : XK → TE} {p1 p2 : Pos}
    (I : Inv X pins σ H s) (L : LamS X.env.scope sc)
    (hf : s.heap.get? f = some (PySem.W.kla_obj "<lambda>" (X.env.qual ++ "<lambda>") pr be sc (cloFrom X.env.cells sc.names []) pm d tv)) (nf : H f = none) (ns : f ∉ frs X.stack)
    (hb : bindArgs (PySem.W.kla_fn "<lambda>" (X.env.qual ++ "<lambda>") pr be sc (cloFrom X.env.cells sc.names []) pm (.ref d) tv) ⟨[], []⟩ = pure [])
    (hx : ∀ σ, PassesAt (L2.CX X.prog X.w) (Zx X Ng qg sg g cdg s H CXg Eg pn xe) σ (E σ)) (hr : Calm (k + 1) (X.A.deeper (envOfC qg sg s.heap.objs.size g cdg)))
    (body : ∀ (A : Around) (outer : List Env) (s : Shared) (H : Hp) (E : XK), Calm k (A.deeper (lamEnv X sc s.heap.objs.size f d)) → PE (lamCx X A outer s H E sc f d) be (tb E))
    (h0 : Ng[0]? = some a) (hv : Vis sg a) (hd : (a == ("__debug__" : Str)) = false := by decide) (hc : (a == ("__classdict__" : Str)) = false := by decide) :
    PE (Zx X Ng qg sg g cdg s H CXg Eg pn xe) (.Call (.Name a p1) [] [] p2) (fun τ K Q => τ[0]? = some (some (.ref f)) ∧ K d = some (CodeO d (X.env.qual ++ "<lambda>")) ∧ tb (E τ) σ K Q) := by
  constructor
  rintro pz sz τ K Q J ⟨h1, h2, h3⟩
  have ld := (pe_var (X := Zx X Ng qg sg g cdg s H CXg Eg pn xe) (pos := p1) (i := 0) h0 hv hd hc).run pz sz τ K (fun v G => v = .ref f ∧ G = K) J ⟨.ref f, h1, rfl, rfl⟩
  refine wpAny_Call_Name_kw (thn ld fun u s1 q => ?_)
  obtain ⟨v, G, J1, rv, rfl, rfl⟩ := q
  cases (show u = Value.ref f from rv)
  have of1 := J1.base.keep f _ hf nf ns (fun z => nomatch (show f ∈ ([] : List Addr) from z))
  refine PySem.W.callWith_F0 ⟨_, _, _, _, of1⟩ ?_
  have un : Un (frs X.stack) [] H G s.heap s1.heap := J1.base
  obtain ⟨⟨oc, vs, t, hoc, hdc, hvc⟩, _, _⟩ := J1.hok d _ h2
  have rc : codeAny (model X.prog X.w) (X.A.deeper (envOfC qg sg s.heap.objs.size g cdg)) (.call (.ref f) ⟨[], []⟩) (CR (L2.CX X.prog X.w) (envOfC qg sg s.heap.objs.size g cdg :: X.stack) X.prog X.w G s1 Q (E τ)) s1 := by
    refine PySem.W.kla_callFunE hr.room.depth of1 rfl L.co L.gen rfl ⟨d, oc, vs, t, rfl, hoc, hdc, hvc⟩ ?_
    rw [hb]
    refine wpAny_pure (wpAny_newFunctionEnv (fun y hy => (L.own y hy).2) (fun y hy => absurd hy (by simp)) (fun h₁ hns hsb => ⟨J1.nolimit.fresh _ hsb, ?_⟩) L.kind)
    show codeAny _ _ (.expr be (lamEnv X sc s1.heap.objs.size f d)) _ _
    have kp : ∀ b o, s1.heap.get? b = some o → h₁.get? b = some o := fun b o e => hsb.extBut b o (Nat.ne_of_lt (Heap.lt_size e)) (Heap.get?_push_of_some _ e)
    have st := lam_start2 (tk := s1.toks + ([] : List (Str × Value)).length) (f := f) (c' := d) (E := E τ) I L J1.env0 hr.room.hd un hns kp
    refine PySem.W.kla_codeExpr (wpAny_mono ((body _ _ s1 G (E τ) (hr.deeper _)).run [] _ _ G Q st h3) (fun v s' hq => ?_) fun e s' hq => hq)
    obtain ⟨w', H', J', rv, q⟩ := hq
    exact ⟨w', H', J'.os, J'.bare, J'.base, J'.hok, rv, q⟩
  refine wpAny_call (codeAny_mono rc fun r s' hq => ?_)
  cases r with
  | error e => exact hx τ pz G s1 e s' J1 hq
  | ok fl => cases fl <;> first | exact J1.after hq | exact False.elim hq
/-- the def's context, outside of a try -/
abbrev Zd (X : Cx) (Ng : List Str) (qg : Str) (sg : Scope) (g : Addr) (cdg : Value) (s : Shared) (H : Hp) : Cx := cxOf (L2.CX X.prog X.w) X.prog X.w X.K X.mg X.base Ng qg sg g cdg X.A X.stack s H E0
/-- a def that gets a lambda: TT tells what it makes of the lambda's reading -/
def GivesS (X : Cx) (k : Nat) (Ng : List Str) (x : Str) (sg : Scope) (g : Addr) (cdg : Value) (bg : List Stmt) (a q : Str) (TT : (XK → Hp → VK → Prop) → Hp → VK → Prop) : Prop := ∀ (f d : Addr) (s : Shared) (H : Hp) (Q : VK) (tl : XK → Hp → VK → Prop), Calm k (X.A.deeper (envOfC x sg s.heap.objs.size g cdg)) →
  (∀ (pn : List (Addr × Obj)) (xe : Value → Shared → Prop) (E : L2.St → XK) (p1 p2 : Pos), (∀ σ, PassesAt (L2.CX X.prog X.w) ((Zd X Ng x sg g cdg s H).tr pn xe) σ (E σ)) →
    PE ((Zd X Ng x sg g cdg s H).tr pn xe) (.Call (.Name a p1) [] [] p2) (fun τ K Q => τ[0]? = some (some (.ref f)) ∧ K d = some (CodeO d q) ∧ tl (E τ) K Q)) →
  H d = some (CodeO d q) → TT tl H Q → ∃ t, PSs (Zd X Ng x sg g cdg s H) bg t ∧ t { nx := fun _ H' => Q .non H', rt := Q } (L2.start Ng [.ref f]) H
/-- x(lambda: body) -/
theorem lam_call {TT : (XK → Hp → VK → Prop) → Hp → VK → Prop} {x a : Str} {g c P : Addr} {k : Nat} {pg : Arguments} {bg : List Stmt} {sg : Scope} {dV kV doc pm cdv ct oc : Value} {an od : Option Addr} {osl : Array (Option Value)} {Ng : List Str}
    {pr : Arguments} {be : Expr} {sc : Scope} {t : XK → TE} {p lp pos : Pos} (hg : Gl X x) (hm : X.mg x = some (.ref g)) (hk : PySem.W.keepIn X.K (.ref g) = true)
    (lk : X.K.lookup g = some ⟨oc, od, .func (PySem.W.fnOf x x pg bg sg dV kV doc pm an cdv ct), osl⟩) (hcg : PySem.W.codeIn X.K cdv x = true) (hb : L2.Binds X.K (PySem.W.fnOf x x pg bg sg dV kV doc pm an cdv ct) [a] []) (Sg : FnScope Ng [a] sg) (h0 : Ng[0]? = some a) (hv : Vis sg a)
    (hG : GivesS X (k + 1) Ng x sg g cdv bg a (X.env.qual ++ "<lambda>") TT) (TB : TabB X.base X.mg c P) (hc : X.env.code = .ref c)
    (hr : Calm (k + 2) X.A) (L : LamS X.env.scope sc) (hdef : defaultsOf pr X.env = ([], [])) (hbi : ∀ (q : Str) (cl : List (Str × Addr)) (pm cv ctv : Value), bindArgs (PySem.W.kla_fn "<lambda>" q pr be sc cl pm cv ctv) ⟨[], []⟩ = pure [])
    (body : ∀ (A : Around) (outer : List Env) (s : Shared) (H : Hp) (E : XK) (f d : Addr), Calm k (A.deeper (lamEnv X sc s.heap.objs.size f d)) → PE (lamCx X A outer s H E sc f d) be (t E))
    (hdb : (x == ("__debug__" : Str)) = false := by decide) (hd : (a == ("__debug__" : Str)) = false := by decide) (hcd : (a == ("__classdict__" : Str)) = false := by decide) :
    PE X (.Call (.Name x p) [.Lambda pr be sc lp] [] pos) (fun σ H Q => TabS H P (X.env.qual ++ "<lambda>") ∧ ∀ H1, LG H H1 P (X.env.qual ++ "<lambda>") → TT (fun E K Q' => t E σ K Q') H1 Q) := by
  constructor
  rintro pins s σ H Q I ⟨tb, h⟩
  refine wpAny_Call_Name_kw (ld_glob I hg hm ?_ hdb)
  refine PySem.W.callWith_K (h₀ := X.base) I.ok.mod.kin hk ?_ (by rfl) (by rfl)
  show wpAny _ _ (spliced ((false, eval (.Lambda pr be sc lp) X.env) :: backTo pos (starEach [] X.env))) _ _ s
  refine Calls.spliced_cons (lam_mk I TB hc tb hdef (L.has I.ok) fun f d pm' tv H1 s' I1 eN hf nf ns hco => ?_)
  refine Calls.spliced_nil ⟨I1.kIn, ?_⟩
  have rc : codeAny (model X.prog X.w) X.A (.call (.ref g) ⟨[.ref f], []⟩) (CR (L2.CX X.prog X.w) X.stack X.prog X.w H1 s' Q E0) s' :=
    run_ofS (N := Ng) (ps := [a]) (us := [.ref f]) (vs := [.ref f]) lk hcg Sg hr.room I1.env0 (hb s' [.ref f] I1.kIn rfl) (.cons rfl .nil) rfl fun hr' =>
      hG f d s' H1 Q (fun E K Q' => t E σ K Q') (hr.deeper _) (fun pn xe E p1 p2 hx => act_at I1 L hf nf ns (hbi _ _ _ _ _) hx (hr.deeper _) (fun A outer s H E hr2 => body A outer s H E f d hr2) h0 hv hd hcd) hco (h H1 eN)
  refine wpAny_call (codeAny_mono rc fun r s2 hq => ?_)
  cases r with
  | error e =>
    obtain ⟨_, _, _, _, _, _, _, _, _, _, _, _, z⟩ := hq
    exact z.elim
  | ok fl => cases fl <;> first | exact I1.after hq | exact False.elim hq
end
end XK
end
section
set_option Elab.async false
set_option linter.all false
set_option maxRecDepth 100000
set_option maxHeartbeats 4000000
/-! A def that gets a lambda without parameters. -/
namespace EV
open PySem PySem.Spec PyProof.Rows L2 XK LamX
/-- tl is the reading of something that answers th, whenever it is asked -/
def ThOk (K : PySem.W.Frag) (cl : Str → Option Addr) (tb : List (Addr × Str)) (th : R) (tl : XK → Hp → VK → Prop) (H S : Hp) : Prop := ∀ (HZ SZ : Hp) (E : XK) (Q : VK), Gd tb none H S HZ SZ →
  (match th with
    | .ret d => ∀ v H' S', Gd tb none HZ SZ H' S' → DV K cl S' v d → Q v H'
    | .err e => ∀ (C dx : Addr) (v : V) (H' S' : Hp), Gd tb none HZ SZ H' S' → cl e.C = some C → H' dx = some (.xd [(e.f, v)]) → HZ dx = none → DV K cl S' v e.x → E (.ref C) (some dx) H'
    | .bad => False) → tl E HZ Q
/-- what a def makes of a lambda: G tells its answer by the lambda's -/
def TTh (K : PySem.W.Frag) (cl : Str → Option Addr) (tb : List (Addr × Str)) (G : R → Val → Prop) : (XK → Hp → VK → Prop) → Hp → VK → Prop := fun tl H Q => ∃ (S : Hp) (th : R) (d : Val), Sub S H ∧ NoT S ∧ Tabs tb H ∧ ThOk K cl tb th tl H S ∧ G th d ∧ ∀ v H' S', Gd tb none H S H' S' → DV K cl S' v d → Q v H'
/-- the lambda asked: it lies in slot 0 -/
def eThk (f : Addr) (th : R) : EV.Ev := fun (η : EV.Env) => match (η[0]? : Option (Option Val)) with
  | some (some (Val.fn f')) => if f' = f then ofR th else .bad
  | _ => .bad
/-- what a def that gets a lambda answers -/
noncomputable def runF (N : Nat) (m : Addr → R → Sm) (th : R) : R := open Classical in if h : ∃ d, ∀ f, toR (m f th (envP N [.fn f])) = .ret d then .ret h.choose else .bad
theorem runF_ret {N : Nat} {m : Addr → R → Sm} {th : R} {d : Val} (h : runF N m th = .ret d) : ∀ f, toR (m f th (envP N [.fn f])) = .ret d := by
  unfold runF at h
  split at h
  · rename_i e
    cases h
    exact e.choose_spec
  · cases h
theorem runF_of {N : Nat} {m : Addr → R → Sm} {th : R} {d : Val} (h : ∀ f, toR (m f th (envP N [.fn f])) = .ret d) : runF N m th = .ret d := by
  have e : ∃ d, ∀ f, toR (m f th (envP N [.fn f])) = .ret d := ⟨d, h⟩
  unfold runF
  rw [dif_pos e, ← e.choose_spec 0, h 0]
section
variable {X : Cx} {c : Ct} {E : L2.St → L2.XK} {e : PySem.Expr}
theorem d_thk {f d : Addr} {th : R} {q : Str} {tl : XK → Hp → VK → Prop} {H S : Hp} (act : PE X e (fun τ K Q => τ[0]? = some (some (.ref f)) ∧ K d = some (CodeO d q) ∧ tl (E τ) K Q))
    (hdr : c.dr = none) (hH : c.H0 = H) (hS : c.S0 = S) (h0 : 0 ∉ c.ow) (hco : H d = some (CodeO d q)) (ht : ThOk c.K c.cl c.tb th tl H S) : PE X e (tE c E (eThk f th)) :=
  pe_imp act fun σ K Q ⟨η, S1, n, r, dr, al⟩ => by
    unfold eThk at al
    dsimp only at al
    split at al
    · rename_i f' he
      split at al
      · rename_i hf
        subst hf
        obtain ⟨v, h1, h2⟩ := r.loc 0 _ he h0
        cases h2
        have g := r.g0
        rw [hdr, hH, hS] at g
        refine ⟨h1, g.keep d _ (fun _ _ z => nomatch z) (fun ps => codeO_ne ps) hco, ht K S1 (E σ) Q g ?_⟩
        cases th with
        | ret d => exact fun v H' S' g h => al v H' S' g.lift (dr.gd g) h
        | err e => exact fun C dx v H' S' g hc hx hn h => al C dx v H' S' g.lift (dr.gd g) hc hx hn h
        | bad => exact al
      · exact al.elim
    · exact al.elim
theorem gives_of {k : Nat} {Ng : List Str} {x a q : Str} {sg : Scope} {g : Addr} {cdg : Value} {bg : List Stmt} {cl : Str → Option Addr} {tb : List (Addr × Str)} {m : Addr → R → Sm} (ow : List Nat) (hN : 1 ≤ Ng.length) (ho : ∀ i ∈ ow, 1 ≤ i)
    (body : ∀ (f : Addr) (th : R) (s : Shared) (H S : Hp), Calm k (X.A.deeper (envOfC x sg s.heap.objs.size g cdg)) → (∀ (W : WX) (pn : List (Addr × Obj)) (xe : Value → Shared → Prop), Takes ((Zd X Ng x sg g cdg s H).tr pn xe) W → ∀ (p1 p2 : Pos), PE ((Zd X Ng x sg g cdg s H).tr pn xe) (.Call (.Name a p1) [] [] p2) (tE ⟨X.K, cl, ow, none, H, S, 0, tb⟩ (WE W) (eThk f th))) →
      PSs (Zd X Ng x sg g cdg s H) bg (tS ⟨X.K, cl, ow, none, H, S, 0, tb⟩ (fun _ => E0) (m f th))) :
    GivesS X k Ng x sg g cdg bg a q (TTh X.K cl tb fun th d => runF Ng.length m th = .ret d) := by
  intro f d s H Q tl cm act hco ⟨S, th, dd, hs, hnt, htb, ht, hG, k⟩
  refine ⟨_, body f th s H S cm fun W pn xe tk p1 p2 => d_thk (act pn xe (WE W) p1 p2 fun σ => passAt tk σ) rfl rfl rfl (fun z => absurd (ho 0 z) (by decide)) hco ht, envP Ng.length [.fn f], S, 0, rel_start hs hnt htb (.cons (.fn f) .nil) hN (fun i hi => ho i hi), drNone, ?_⟩
  have z := runF_ret hG f
  cases t : m f th (envP Ng.length [.fn f]) with
  | ret o =>
    rw [t] at z
    cases o with
    | rt v => cases z; exact fun v H' S' g _ h => k v H' S' g h
    | nx η' => cases z; exact fun σ' H' S' r _ _ => k .non H' S' r.g0 .non
    | ex e η' => cases z
    | bk η' => cases z
    | ct η' => cases z
  | err e => rw [t] at z; cases z
  | draw b k => rw [t] at z; cases z
  | bad => rw [t] at z; cases z
end
/-! ### the caller's side -/
/-- without the lists and dicts of the def's own -/
def maskE (η : Env) : List Nat → Env
  | [] => η
  | i :: r => (maskE η r).set i none
theorem maskE_len {η : Env} : ∀ {ow : List Nat}, (maskE η ow).length = η.length
  | [] => rfl
  | i :: r => by
    show ((maskE η r).set i none).length = _
    rw [List.length_set, maskE_len]
theorem maskE_get {η : Env} {j : Nat} {d : Val} : ∀ {ow : List Nat}, (maskE η ow)[j]? = some (some d) → j ∉ ow ∧ η[j]? = some (some d)
  | [], h => ⟨fun z => (nomatch z), h⟩
  | i :: r, h => by
    rcases get_set (show ((maskE η r).set i none)[j]? = some (some d) from h) with ⟨_, _, q⟩ | ⟨q, z⟩
    · cases q
    · obtain ⟨h1, h2⟩ := maskE_get z
      exact ⟨by simp only [List.mem_cons, not_or]; exact ⟨q, h1⟩, h2⟩
def runT : T Val → R
  | .ret d => .ret d
  | .err e => .err e
  | _ => .bad
/-- x(lambda: ..), F the def's function of the lambda's answer, fb the lambda's body -/
def eLam (F : R → R) (ow : List Nat) (fb : Ev) : Ev := fun η => match F (runT (fb (maskE η ow))) with
  | .ret d => .ret d
  | _ => .bad
theorem lg_gd {tb : List (Addr × Str)} {H H1 S : Hp} {P : Addr} {q : Str} (g : LG H H1 P q) (s : Sub S H) (nt : NoT S) (hu : ∀ p ∈ tb, p.1 = P → p.2 = q) : Gd tb none H S H1 S :=
  ⟨fun a o _ t h => g.keep a o h t, Sub.refl S, fun a o h => g.keep a o (s a o h) fun ps z => nt a ps (by rw [← z]; exact h), fun a o h => .inl h, g.dom, fun p hp t => by
    by_cases e : p.1 = P
    · rw [e, hu p hp e]; exact g.own
    · exact g.oth _ _ e t, id⟩
section
variable {X : Cx} {c : Ct} {E : L2.St → L2.XK}
theorem pe_ex {ι : Type} {e : PySem.Expr} {t : ι → TE} (h : ∀ i, PE X e (t i)) : PE X e (fun σ H Q => ∃ i, t i σ H Q) := ⟨fun pins s σ H Q I ⟨i, q⟩ => (h i).run pins s σ H Q I q⟩
theorem d_lam {F : R → R} {fb : Ev} {x a : Str} {g cA P : Addr} {k : Nat} {pg : Arguments} {bg : List Stmt} {sg : Scope} {dV kV doc pm cdv ct oc : Value} {an od : Option Addr} {osl : Array (Option Value)} {Ng : List Str}
    {pr : Arguments} {be : Expr} {sc : Scope} {p lp pos : Pos} (hK : X.K = c.K) (hm : X.mg x = some (.ref g)) (hk : PySem.W.keepIn X.K (.ref g) = true)
    (lk : X.K.lookup g = some ⟨oc, od, .func (PySem.W.fnOf x x pg bg sg dV kV doc pm an cdv ct), osl⟩) (hcg : PySem.W.codeIn X.K cdv x = true) (hb : L2.Binds X.K (PySem.W.fnOf x x pg bg sg dV kV doc pm an cdv ct) [a] []) (Sg : FnScope Ng [a] sg) (h0 : Ng[0]? = some a) (hv : Vis sg a)
    (hG : ∀ q, GivesS X (k + 1) Ng x sg g cdv bg a q (TTh X.K c.cl c.tb fun th d => F th = .ret d)) (TB : TabB X.base X.mg cA P) (hc : X.env.code = .ref cA) (hT : (P, X.env.qual ++ "<lambda>") ∈ c.tb) (hu : ∀ p ∈ c.tb, p.1 = P → p.2 = X.env.qual ++ "<lambda>")
    (cm : Calm (k + 2) X.A) (hg : Gl X x) (L : LamS X.env.scope sc) (hdef : defaultsOf pr X.env = ([], [])) (hbi : ∀ (q : Str) (cl : List (Str × Addr)) (pm cv ctv : Value), bindArgs (PySem.W.kla_fn "<lambda>" q pr be sc cl pm cv ctv) ⟨[], []⟩ = pure [])
    (body : ∀ (A : Around) (outer : List PySem.Env) (s : Shared) (H H0 S0 : Hp) (E : XK) (f d : Addr), Calm k (A.deeper (lamEnv X sc s.heap.objs.size f d)) → PE (lamCx X A outer s H E sc f d) be (tE ⟨c.K, c.cl, c.ow, none, H0, S0, 0, c.tb⟩ (fun _ => E) fb))
    (hdb : (x == ("__debug__" : Str)) = false := by decide) (hd : (a == ("__debug__" : Str)) = false := by decide) (hcd : (a == ("__classdict__" : Str)) = false := by decide) :
    PE X (.Call (.Name x p) [.Lambda pr be sc lp] [] pos) (tE c E (eLam F c.ow fb)) :=
  pe_imp (lam_call (t := fun E σ K Q => ∃ i : Hp × Hp, tE ⟨c.K, c.cl, c.ow, none, i.1, i.2, 0, c.tb⟩ (fun _ => E) fb σ K Q) hg hm hk lk hcg hb Sg h0 hv (hG _) TB hc cm L hdef hbi (fun A outer s H E f d cm' => pe_ex fun i => body A outer s H i.1 i.2 E f d cm') hdb hd hcd) fun σ H Q ⟨η, S, n, r, dr, al⟩ => by
    refine ⟨r.tabs _ hT, fun H1 lg => ?_⟩
    have gl : Gd c.tb none H S H1 S := lg_gd lg r.sub r.nt hu
    unfold eLam at al
    dsimp only at al
    split at al
    · rename_i d hF
      refine ⟨S, runT (fb (maskE η c.ow)), d, gl.sub, r.nt, gl.tabs r.tabs, ?_, hF, fun v H' S' g h => al v H' S' (gl.lift.trans g.lift) (dr.gd (gl.trans g)) (hK ▸ h)⟩
      intro HZ SZ EZ QZ gz th
      have gg := gl.trans gz
      refine ⟨(HZ, SZ), maskE η c.ow, SZ, 0, ⟨Gd.refl gz.sub, by rw [maskE_len]; exact r.len, fun i d e n => ?_, fun i d e n => ?_, fun i j d e a hi hj hij h1 => ?_, fun p cc e => (nomatch e), gg.nt r.nt, gg.tabs r.tabs⟩, drNone, ?_⟩
      · obtain ⟨_, e⟩ := maskE_get e
        obtain ⟨v, h1, h2⟩ := r.loc i d e n
        exact ⟨v, h1, h2.mono gg.up⟩
      · exact absurd n (maskE_get e).1
      · exact absurd hi (maskE_get h1).1
      · rw [hK] at th
        cases t : fb (maskE η c.ow) with
        | ret d => rw [t] at th; exact fun v H' S' g _ h => th v H' S' g h
        | err e => rw [t] at th; exact fun C dx v H' S' g _ hc hx hn h => th C dx v H' S' g hc hx hn h
        | draw b k => rw [t] at th; exact th.elim
        | bad => rw [t] at th; exact th.elim
    · exact al.elim
/-- the same by the def itself -/
theorem d_lamF {F : R → R} {fb : Ev} {x a : Str} {st : Stmt} {g cA P : Addr} {fd : FuncData} {k : Nat} {Ng : List Str} {pr : Arguments} {be : Expr} {sc : Scope} {p lp pos : Pos} (hK : X.K = c.K) (hm : X.mg x = some (.ref g)) (Fn : Fun X.K x x st g fd) (hb : L2.Binds X.K fd [a] []) (Sg : FnScope Ng [a] (defScope st)) (h0 : Ng[0]? = some a) (hv : Vis (defScope st) a)
    (hG : ∀ cdv q, GivesS X (k + 1) Ng x (defScope st) g cdv (defBody st) a q (TTh X.K c.cl c.tb fun th d => F th = .ret d)) (TB : TabB X.base X.mg cA P) (hc : X.env.code = .ref cA) (hT : (P, X.env.qual ++ "<lambda>") ∈ c.tb) (hu : ∀ p ∈ c.tb, p.1 = P → p.2 = X.env.qual ++ "<lambda>")
    (cm : Calm (k + 2) X.A) (hg : Gl X x) (L : LamS X.env.scope sc) (hdef : defaultsOf pr X.env = ([], [])) (hbi : ∀ (q : Str) (cl : List (Str × Addr)) (pm cv ctv : Value), bindArgs (PySem.W.kla_fn "<lambda>" q pr be sc cl pm cv ctv) ⟨[], []⟩ = pure [])
    (body : ∀ (A : Around) (outer : List PySem.Env) (s : Shared) (H H0 S0 : Hp) (E : XK) (f d : Addr), Calm k (A.deeper (lamEnv X sc s.heap.objs.size f d)) → PE (lamCx X A outer s H E sc f d) be (tE ⟨c.K, c.cl, c.ow, none, H0, S0, 0, c.tb⟩ (fun _ => E) fb))
    (hdb : (x == ("__debug__" : Str)) = false := by decide) (hd : (a == ("__debug__" : Str)) = false := by decide) (hcd : (a == ("__classdict__" : Str)) = false := by decide) :
    PE X (.Call (.Name x p) [.Lambda pr be sc lp] [] pos) (tE c E (eLam F c.ow fb)) := by
  have kp := Fn.kp
  obtain ⟨oc, od, kV, doc, pm, an, cdv, ct, osl, rfl, lk, hcg⟩ := Fn.ex
  exact d_lam hK hm kp lk hcg hb Sg h0 hv (hG cdv) TB hc hT hu cm hg L hdef hbi body hdb hd hcd
/-- isinstance of an exception of the program's own, a built-in class -/
theorem d_isB {sub : Str → Bool} {T : String} {x2 : Str} {a : PySem.Expr} {f : Ev} {p p2 pos : Pos} (hX : ∀ n C, c.cl n = some C → ExcC X.K C ∧ PySem.W.kitOne X.K (.ref C) (.type T) = some (sub n)) (hg : Gl X "isinstance") (hm : X.mg "isinstance" = none) (hT : PE X (.Name x2 p2) (tC (.ty T))) (he : PE X a (tE c E f))
    (hs1 : starEach [a, .Name x2 p2] X.env = (false, eval a X.env) :: starEach [.Name x2 p2] X.env := by rfl) (hpl : (backTo pos (starEach [.Name x2 p2] X.env)).any (·.1) = false := by rfl) (hs2 : starEach [.Name x2 p2] X.env = (false, eval (.Name x2 p2) X.env) :: starEach [] X.env := by rfl) :
    PE X (.Call (.Name "isinstance" p) [a, .Name x2 p2] [] pos) (tE c E (eIsX sub f)) :=
  pe_imp (pe_callB call_isx hg hm (by decide +kernel) (pa_cons he (pa_cons hT pa_nil hs2) hs1) (by decide) (by decide) hs1 hpl) fun σ H Q ⟨η, S, n, r, d, al⟩ => ⟨η, S, n, r, d, all_mono (all_bind.mp al) (fun d1 k q v H1 S1 g1 d1' h1 => by
    obtain ⟨o, e, q⟩ := all_ofO.mp q
    cases d1 <;> try cases e
    cases h1 with
    | exc e1 e2 e3 e4 =>
      have s1 := (r.grow g1).sub
      exact ⟨_, _, _, _, _, _, _, rfl, .ty T, s1 _ _ e1, s1 _ _ e2, (hX _ _ e3).1, (hX _ _ e3).2, q _ H1 S1 g1 d1' (.bl _)⟩) fun _ _ t => t⟩
/-- the name of the lambdas of a def -/
def lamName (x : Str) : Str := x ++ ".<locals>." ++ "<lambda>"
end
end EV
end
section
set_option Elab.async false
set_option linter.all false
set_option maxRecDepth 100000
set_option maxHeartbeats 4000000
/-! The end of a law with lambdas: tables of code objects at the start. -/
namespace XK
open PySem PySem.Spec PyProof.Rows L2 LamX
/-- the script, where it is no written thing, and the tables -/
def seenT (a : Addr) (w : Bool) (its : List Value) (zs : List V) (ts : List Addr) : Hp := fun c => if c = a then (if w = true then some (.frz { cls := .type "list", data := .seq its.toArray } (.lst zs)) else none) else if c ∈ ts then some (.tbl #[]) else none
section
variable {P : Program} {wd : World} {K : PySem.W.Frag} {mg mb : Str → Option Value} {k : Nat} {fa a : Addr} {fd : FuncData} {x : Str} {sp : Sp} {s1 : Shared} {its : List Value} {zs : List Int} {cs : List (Addr × Addr)}
theorem law_gT (inK : K.In s1.heap) (n1 : s1.heap.Ns mainGlobals mg) (n2 : s1.heap.Ns builtinsNs mb) (bb : ∀ y : Str, y ≠ "__name__" → mb y = bootBuiltins y) (nl : s1.heap.NoLimit) (ng : s1.gens = #[])
    (tabE : ∀ p ∈ cs, s1.heap.get? p.2 = some { cls := .none, data := .fields #[] }) (tabK : ∀ p ∈ cs, K.lookup p.2 = none) (tabC : ∀ p ∈ cs, PySem.W.CodeHd s1.heap p.1 p.2)
    (bmod : ∃ (bm : Addr) (ob : Obj), mg "__builtins__" = some (.ref bm) ∧ bm ≠ builtinsNs ∧ s1.heap.get? bm = some ob ∧ ob.cls = .type "module" ∧ ob.dict = some builtinsNs ∧ ob.data = .plain)
    (at1 : s1.heap.get? a = some { cls := .type "list", data := .seq its.toArray }) (hin : IntsAre its zs) (few : zs.length ≤ sizeLine) (room : Room k callerA)
    (F : ∀ base : Heap, K.In base → base.Ns mainGlobals mg → (∀ p ∈ cs, TabB base mg p.1 p.2) → FnG P wd K mg base k fa fd [x] sp) (bd : ∀ (s : Shared) (u : Value), BindsTo s fd ⟨[u], []⟩ [(x, u)])
    (ask : ∀ H : Hp, (∀ p ∈ cs, H p.2 = some (.tbl #[])) → SqL K H a (zs.map V.int) → sp [.ref a] H (fun v _ => v = .bl true) E0) :
    codeAny (model P wd) callerA (.call (.ref fa) ⟨[.ref a], []⟩) (fun r s2 => r = .ok (.ret (.bool true)) ∧ OldK s1.heap s2.heap ∧ s2.os = s1.os ∧ AllBare s2.gens) s1 := by
  have rel := vals_ints hin
  have same := hin.length
  obtain ⟨w, w1, w2⟩ : ∃ w : Bool, (w = true → K.lookup a = none) ∧ (w = false → ∃ o, K.lookup a = some o) := by
    cases q : K.lookup a with
    | none => exact ⟨true, fun _ => rfl, fun z => (by cases z)⟩
    | some o => exact ⟨false, fun z => (by cases z), fun _ => ⟨o, rfl⟩⟩
  have tabs : ∀ c ∈ cs.map (·.2), s1.heap.get? c = some { cls := .none, data := .fields #[] } ∧ K.lookup c = none := fun c hc => by
    obtain ⟨p, hp, rfl⟩ := List.mem_map.mp hc
    exact ⟨tabE p hp, tabK p hp⟩
  have aNo : a ∉ cs.map (·.2) := fun z => by
    have q := (tabs a z).1
    rw [at1] at q
    cases q
  -- what H tells
  generalize hS : seenT a w its (zs.map V.int) (cs.map (·.2)) = S
  have S1 : ∀ {c : Addr} {u : HO}, S c = some u → (c = a ∧ w = true ∧ u = .frz { cls := .type "list", data := .seq its.toArray } (.lst (zs.map V.int))) ∨ (c ∈ cs.map (·.2) ∧ u = .tbl #[]) := fun {c u} e => by
    rw [← hS] at e
    unfold seenT at e
    split at e
    · rename_i g
      split at e
      · rename_i g2
        cases e
        exact .inl ⟨g, g2, rfl⟩
      · cases e
    · split at e
      · rename_i g
        cases e
        exact .inr ⟨g, rfl⟩
      · cases e
  have S2 : ∀ c ∈ cs.map (·.2), S c = some (.tbl #[]) := fun c hc => by
    rw [← hS]
    unfold seenT
    rw [if_neg (fun z => aNo (by rw [← z]; exact hc)), if_pos hc]
  -- things that are neither lists nor tables are not seen
  have plain : ∀ {c : Addr} {o : Obj}, s1.heap.get? c = some o → o.data ≠ .seq its.toArray → o.data ≠ .fields #[] → S c = none := fun {c o} e h1 h2 => by
    cases q : S c with
    | none => rfl
    | some u =>
      rcases S1 q with ⟨rfl, _⟩ | ⟨hc, _⟩
      · rw [at1] at e; cases e; exact absurd rfl h1
      · rw [(tabs c hc).1] at e; cases e; exact absurd rfl h2
  have hid : ∀ {c : Addr} {o : Obj}, s1.heap.get? c = some o → o.data ≠ .seq its.toArray → o.data ≠ .fields #[] → (hidT s1.heap S).get? c = some o := fun e h1 h2 => hidT_get e (plain e h1 h2)
  have keepNs : ∀ {c : Addr} {m : Str → Option Value}, s1.heap.Ns c m → (hidT s1.heap S).Ns c m := fun ⟨o, es, ep, h1, h2, h3⟩ => ⟨o, es, ep, hid h1 (fun z => by rw [h2] at z; cases z) (fun z => by rw [h2] at z; cases z), h2, h3⟩
  have inB : K.In (hidT s1.heap S) := fun c o h => hidT_get (inK c o h) (by
    cases q : S c with
    | none => rfl
    | some u =>
      rcases S1 q with ⟨rfl, hw, _⟩ | ⟨hc, _⟩
      · rw [w1 hw] at h; cases h
      · rw [(tabs c hc).2] at h; cases h)
  have okH : HOk P wd S s1.heap := fun c u h => by
    rcases S1 h with ⟨rfl, _, rfl⟩ | ⟨hc, rfl⟩
    · exact ⟨at1, by rw [List.length_map]; exact few, its, _, rel, at1⟩
    · exact (tabs c hc).1
  have sq : SqL K S a (zs.map V.int) := by
    cases w with
    | true => exact .inl (.inr ⟨_, by rw [← hS]; unfold seenT; rw [if_pos rfl, if_pos rfl]⟩)
    | false =>
      obtain ⟨o, ho⟩ := w2 rfl
      have h2 := inK a o ho
      rw [at1] at h2
      cases h2
      exact .inr ⟨_, its.toArray, _, ho, rfl, rfl, rfl, by rw [List.size_toArray, same]; exact few, by simpa using rel⟩
  have md : Mod K mg (hidT s1.heap S) := ⟨inB, keepNs n1, ⟨mb, keepNs n2, bb⟩, let ⟨mc, h1, h2⟩ := nl; ⟨mc, keepNs h1, h2⟩⟩
  have TB : ∀ p ∈ cs, TabB (hidT s1.heap S) mg p.1 p.2 := fun p hp => by
    refine ⟨?_, ?_, fun z => ?_⟩
    · obtain ⟨o, us, file, tf, flags, tg, inF, text, tt, e, q1, q2, q3, r⟩ := tabC p hp
      refine ⟨o, us, file, tf, flags, tg, inF, text, tt, hid e (fun z => ?_) (fun z => ?_), q1, q2, q3, r⟩
      · rw [q2] at z; cases z
      · rw [q2] at z; cases z; exact absurd q3 (by simp)
    · obtain ⟨bm, ob, b1, b2, b3, b4, b5, b6⟩ := bmod
      refine ⟨bm, ob, b1, b2, fun q => ?_, fun q => ?_, hid b3 (fun z => by rw [b6] at z; cases z) (fun z => by rw [b6] at z; cases z), b4, b5, b6⟩
      · obtain ⟨o, es, ep, e, d, _⟩ := n1
        rw [q, e] at b3; cases b3; rw [d] at b6; cases b6
      · rw [q, tabE p hp] at b3; cases b3; cases b6
    · obtain ⟨o, es, ep, e, d, _⟩ := n1
      rw [z, tabE p hp] at e; cases e; cases d
  have env : Env0 P wd K mg (hidT s1.heap S) callerA [] s1 S :=
    ⟨rfl, md, fun c o h => of_hidT h, Nat.le_of_eq (hidT_size _ _), trivial, fun c hc => absurd (show c ∈ ([] : List Addr) from hc) (by simp), okH, .of_eq ng⟩
  refine codeAny_mono ((F _ inB (keepNs n1) TB).go callerA [] s1 _ ⟨[.ref a], []⟩ [.ref a] [.ref a] _ _ (callerCalm room) env (bd s1 (.ref a)) (.cons rfl .nil) (ask _ (fun p hp => S2 _ (List.mem_map_of_mem hp)) sq)) fun r s2 hq => ?_
  match r, hq with
  | .error e, hq =>
    obtain ⟨_, _, _, _, _, _, _, _, _, _, _, _, z⟩ := hq
    exact z.elim
  | .ok (.ret u), ⟨v, H2, os, bare, un, ok2, rv, q⟩ =>
    have q1 : v = .bl true := q
    subst q1
    obtain rfl : u = Value.bool true := rv
    have grown : ∀ c ∈ cs.map (·.2), ∃ more : Array Value, s2.heap.get? c = some { cls := .none, data := .fields more } := fun c hc => by
      obtain ⟨more, z⟩ := un.tbls c #[] (S2 c hc)
      exact ⟨_, ok2 c _ z⟩
    have stay : ∀ c o, c ∉ cs.map (·.2) → s1.heap.get? c = some o → s2.heap.get? c = some o := fun c o nc h => by
      cases q2 : S c with
      | none => exact un.keep c o h q2 (fun z => absurd (show c ∈ ([] : List Addr) from z) (by simp)) (by simp)
      | some u2 =>
        rcases S1 q2 with ⟨rfl, _, rfl⟩ | ⟨hc, _⟩
        · obtain ⟨e1, _⟩ := ok2 c _ (un.frzs c _ _ q2)
          rw [at1] at h
          cases h
          exact e1
        · exact absurd hc nc
    refine ⟨rfl, ⟨fun c o h => ?_, fun c o h => ?_⟩, os, bare⟩
    · by_cases hc : c ∈ cs.map (·.2)
      · obtain ⟨p, hp, e⟩ := List.mem_map.mp hc
        obtain ⟨more, hm⟩ := grown c hc
        subst e
        rw [tabE p hp] at h
        cases h
        exact .inr (.inl ⟨((tabC p hp).tab (tabE p hp)).isCodeTable, rfl, #[], more, rfl, by rw [Array.empty_append]; exact hm⟩)
      · exact .inl (stay c o hc h)
    · by_cases hc : c ∈ cs.map (·.2)
      · obtain ⟨more, hm⟩ := grown c hc
        exact ⟨_, hm⟩
      · exact ⟨o, stay c o hc h⟩
end
/-- what k_head leaves, from such a law; ts: the tables that the head tells -/
theorem walk_gT {l : PySem.W.OpenLaw} {n k : Nat} {q : Program} {loose : List Str} {XP : (Str → Option Value) → Heap → Prop} {YP : World → Heap → Prop} {d : DefRec} {Kf : Params → PySem.W.Frag} {x : Str} {ts : List Addr}
    (h1 : l.most = some n) (h2 : n ≤ sizeLine) (h3 : d.params.defaults = []) (h4 : Room k callerA) (hY : ∀ (wd : World) (h : Heap), YP wd h → (Kf wd.params).In h ∧ ∀ P ∈ ts, h.get? P = some (PySem.W.tabObj #[]))
    (F : ∀ (wd : World) (mg : Str → Option Value) (fa : Addr) (h : Heap), (Kf wd.params).In h → h.Ns mainGlobals mg → mg d.name = some (.ref fa) →
      ∃ (fd : FuncData) (cs : List (Addr × Addr)) (sp : Sp), (∀ p ∈ cs, p.2 ∈ ts ∧ (Kf wd.params).lookup p.2 = none ∧ PySem.W.CodeHd h p.1 p.2) ∧ (∀ (s : Shared) (u : Value), BindsTo s fd ⟨[u], []⟩ [(x, u)]) ∧
        (∀ (H : Hp) (a : Addr) (zs : List Int), zs.length ≤ n → (∀ p ∈ cs, H p.2 = some (.tbl #[])) → SqL (Kf wd.params) H a (zs.map V.int) → sp [.ref a] H (fun v _ => v = .bl true) E0) ∧
        ∀ base : Heap, (Kf wd.params).In base → base.Ns mainGlobals mg → (∀ p ∈ cs, TabB base mg p.1 p.2) → FnG l.prog wd (Kf wd.params) mg base k fa fd [x] sp) :
    PySem.W.WalkO q loose XP YP l.row.toRowW d [] (fun f vs => PySem.call f vs) := by
  refine Att.attach_callB h1 h3 fun wd s0 s1 mg mb fa o pm cd doc a its zs G Y ho hd hcd hmg hobj hints hlen hbits hg => ?_
  obtain ⟨inK, hT⟩ := hY wd _ Y
  obtain ⟨fd, cs, sp, hc, hb, hsp, hF⟩ := F wd mg fa _ inK G.T.g hmg
  exact law_gT inK G.T.g G.T.b G.T.builtins G.T.nolimit hg (fun p hp => hT _ (hc p hp).1) (fun p hp => (hc p hp).2.1) (fun p hp => (hc p hp).2.2) G.T.bmain hobj hints (Nat.le_trans hlen h2) h4 hF hb fun H hH hS => hsp H a zs hlen hH hS
/-- a def of the top that makes lambdas: its code object at c, that one's table at P -/
def Mk (K : PySem.W.Frag) (x : Str) (st : Stmt) (c P : Addr) : Prop := ∃ (f : Addr) (fd : FuncData), PySem.W.nsIn K mainGlobals x = some (some (.ref f)) ∧ Fun K x x st f fd ∧ fd.code = .ref c ∧ PySem.W.codeHdIn K c P = true
theorem Mk.mk {K : PySem.W.Frag} {x : Str} {st : Stmt} {f c P : Addr} {oc : Value} {od an dd : Option Addr} {osl sl : Array (Option Value)} {kV doc pm ct : Value} {vs : Array Value} (a : PySem.W.nsIn K mainGlobals x = some (some (.ref f)))
    (l : K.lookup f = some ⟨oc, od, .func (PySem.W.fnOf x x (defArgs st) (defBody st) (defScope st) .none kV doc pm an (.ref c) ct), osl⟩) (cc : PySem.W.codeIn K (.ref c) x = true) (k : PySem.W.keepIn K (.ref f) = true)
    (o : K.lookup c = some ⟨.type "code", dd, .fields vs, sl⟩) (v : vs.toList[11]? = some (.ref P)) (h : PySem.W.codeHdIn K c P = true) : Mk K x st c P := ⟨_, _, a, fun_mk l cc k, rfl, h⟩
end XK
end
section
set_option Elab.async false
set_option linter.all false
set_option maxRecDepth 100000
set_option maxHeartbeats 4000000
namespace My
open PySem PySem.Spec PyProof.Rows L2 XK EV
def top (i : Nat) : Stmt := PySem.Challenge.pw_crewstep_k35_crews_and_steps_on_rings.main.body.getD i (.Pass ⟨0, 0, 0, 0⟩)
def inner (i k : Nat) : Stmt := match top i with
  | .ClassDef _ _ _ b _ _ _ _ _ _ _ => b.getD k (.Pass ⟨0, 0, 0, 0⟩)
  | _ => .Pass ⟨0, 0, 0, 0⟩

abbrev S__law_begin : Stmt := top 41
abbrev S__law_mixed : Stmt := top 42
abbrev S__law_next : Stmt := top 43
abbrev sBegin : Stmt := top 41
abbrev sMixed : Stmt := top 42
abbrev sNext : Stmt := top 43
abbrev I0_InvalidRoster : Stmt := inner 2 0
abbrev I0_InvalidPeople : Stmt := inner 3 0
abbrev I0_InvalidBadge : Stmt := inner 4 0
abbrev I0_InvalidWalk : Stmt := inner 5 0
abbrev I0_NotPossible : Stmt := inner 7 0
abbrev S_is_int : Stmt := top 10
abbrev S_check_roster : Stmt := top 14
abbrev S_badges_of : Stmt := top 15
abbrev S_size_of : Stmt := top 16
abbrev S__is_entry : Stmt := top 17
abbrev S__is_badge : Stmt := top 18
abbrev S__is_size : Stmt := top 19
abbrev S_check_line : Stmt := top 22
abbrev S_check_ring : Stmt := top 23
abbrev S_turned : Stmt := top 24
abbrev S_check_walk : Stmt := top 27
abbrev S_steps_to_try : Stmt := top 28
abbrev S_is_crew_at : Stmt := top 29
abbrev S_is_possible : Stmt := top 30
abbrev S_after_step : Stmt := top 31
abbrev S__is_step : Stmt := top 32
abbrev S__is_place : Stmt := top 33
abbrev S__is_side : Stmt := top 34
abbrev S_ring_crews_at : Stmt := top 36
abbrev S_ring_steps_of : Stmt := top 37
abbrev S_ring_after_walk : Stmt := top 38
abbrev S__after_ring_step : Stmt := top 39
abbrev S__law_roster : Stmt := top 44
abbrev S__law_circle : Stmt := top 45
abbrev S__law_crew : Stmt := top 46
abbrev S__law_moved : Stmt := top 47
abbrev S__law_raised : Stmt := top 48
abbrev S__law_step_right : Stmt := top 49
abbrev S__law_badge_right : Stmt := top 50
abbrev S__law_right : Stmt := top 51
abbrev S_law : Stmt := top 52
structure Wd (K : PySem.W.Frag) (mg : Str → Option Value) (base : Heap) where
  f_is_int : Addr
  d_is_int : FuncData
  F_is_int : Fun K "is_int" "is_int" S_is_int f_is_int d_is_int
  n_is_int : mg "is_int" = some (.ref f_is_int)
  b_is_int : Binds K d_is_int ["thing"] []
  f_check_roster : Addr
  d_check_roster : FuncData
  F_check_roster : Fun K "check_roster" "check_roster" S_check_roster f_check_roster d_check_roster
  n_check_roster : mg "check_roster" = some (.ref f_check_roster)
  b_check_roster : Binds K d_check_roster ["roster"] []
  f_badges_of : Addr
  d_badges_of : FuncData
  F_badges_of : Fun K "badges_of" "badges_of" S_badges_of f_badges_of d_badges_of
  n_badges_of : mg "badges_of" = some (.ref f_badges_of)
  b_badges_of : Binds K d_badges_of ["roster"] []
  f_size_of : Addr
  d_size_of : FuncData
  F_size_of : Fun K "size_of" "size_of" S_size_of f_size_of d_size_of
  n_size_of : mg "size_of" = some (.ref f_size_of)
  b_size_of : Binds K d_size_of ["roster", "badge"] []
  f__is_entry : Addr
  d__is_entry : FuncData
  F__is_entry : Fun K "_is_entry" "_is_entry" S__is_entry f__is_entry d__is_entry
  n__is_entry : mg "_is_entry" = some (.ref f__is_entry)
  b__is_entry : Binds K d__is_entry ["item"] []
  f__is_badge : Addr
  d__is_badge : FuncData
  F__is_badge : Fun K "_is_badge" "_is_badge" S__is_badge f__is_badge d__is_badge
  n__is_badge : mg "_is_badge" = some (.ref f__is_badge)
  b__is_badge : Binds K d__is_badge ["thing"] []
  f__is_size : Addr
  d__is_size : FuncData
  F__is_size : Fun K "_is_size" "_is_size" S__is_size f__is_size d__is_size
  n__is_size : mg "_is_size" = some (.ref f__is_size)
  b__is_size : Binds K d__is_size ["thing"] []
  f_check_line : Addr
  d_check_line : FuncData
  F_check_line : Fun K "check_line" "check_line" S_check_line f_check_line d_check_line
  n_check_line : mg "check_line" = some (.ref f_check_line)
  b_check_line : Binds K d_check_line ["roster", "line"] []
  f_check_ring : Addr
  d_check_ring : FuncData
  F_check_ring : Fun K "check_ring" "check_ring" S_check_ring f_check_ring d_check_ring
  n_check_ring : mg "check_ring" = some (.ref f_check_ring)
  b_check_ring : Binds K d_check_ring ["roster", "ring"] []
  f_turned : Addr
  d_turned : FuncData
  F_turned : Fun K "turned" "turned" S_turned f_turned d_turned
  n_turned : mg "turned" = some (.ref f_turned)
  b_turned : Binds K d_turned ["roster", "ring", "by"] []
  f_check_walk : Addr
  d_check_walk : FuncData
  F_check_walk : Fun K "check_walk" "check_walk" S_check_walk f_check_walk d_check_walk
  n_check_walk : mg "check_walk" = some (.ref f_check_walk)
  b_check_walk : Binds K d_check_walk ["walk"] []
  f_steps_to_try : Addr
  d_steps_to_try : FuncData
  F_steps_to_try : Fun K "steps_to_try" "steps_to_try" S_steps_to_try f_steps_to_try d_steps_to_try
  n_steps_to_try : mg "steps_to_try" = some (.ref f_steps_to_try)
  b_steps_to_try : Binds K d_steps_to_try ["roster", "people", "badge"] []
  f_is_crew_at : Addr
  d_is_crew_at : FuncData
  F_is_crew_at : Fun K "is_crew_at" "is_crew_at" S_is_crew_at f_is_crew_at d_is_crew_at
  n_is_crew_at : mg "is_crew_at" = some (.ref f_is_crew_at)
  b_is_crew_at : Binds K d_is_crew_at ["sizes", "line", "place"] []
  f_is_possible : Addr
  d_is_possible : FuncData
  F_is_possible : Fun K "is_possible" "is_possible" S_is_possible f_is_possible d_is_possible
  n_is_possible : mg "is_possible" = some (.ref f_is_possible)
  b_is_possible : Binds K d_is_possible ["sizes", "line", "step"] []
  f_after_step : Addr
  d_after_step : FuncData
  F_after_step : Fun K "after_step" "after_step" S_after_step f_after_step d_after_step
  n_after_step : mg "after_step" = some (.ref f_after_step)
  b_after_step : Binds K d_after_step ["sizes", "line", "step"] []
  f__is_step : Addr
  d__is_step : FuncData
  F__is_step : Fun K "_is_step" "_is_step" S__is_step f__is_step d__is_step
  n__is_step : mg "_is_step" = some (.ref f__is_step)
  b__is_step : Binds K d__is_step ["thing"] []
  f__is_place : Addr
  d__is_place : FuncData
  F__is_place : Fun K "_is_place" "_is_place" S__is_place f__is_place d__is_place
  n__is_place : mg "_is_place" = some (.ref f__is_place)
  b__is_place : Binds K d__is_place ["thing"] []
  f__is_side : Addr
  d__is_side : FuncData
  F__is_side : Fun K "_is_side" "_is_side" S__is_side f__is_side d__is_side
  n__is_side : mg "_is_side" = some (.ref f__is_side)
  b__is_side : Binds K d__is_side ["thing"] []
  f_ring_crews_at : Addr
  d_ring_crews_at : FuncData
  F_ring_crews_at : Fun K "ring_crews_at" "ring_crews_at" S_ring_crews_at f_ring_crews_at d_ring_crews_at
  n_ring_crews_at : mg "ring_crews_at" = some (.ref f_ring_crews_at)
  b_ring_crews_at : Binds K d_ring_crews_at ["roster", "ring"] []
  f_ring_steps_of : Addr
  d_ring_steps_of : FuncData
  F_ring_steps_of : Fun K "ring_steps_of" "ring_steps_of" S_ring_steps_of f_ring_steps_of d_ring_steps_of
  n_ring_steps_of : mg "ring_steps_of" = some (.ref f_ring_steps_of)
  bd_ring_steps_of : ∃ ds, Vals [.non] ds ∧ Binds K d_ring_steps_of ["roster", "ring", "badge"] ds
  f_ring_after_walk : Addr
  d_ring_after_walk : FuncData
  F_ring_after_walk : Fun K "ring_after_walk" "ring_after_walk" S_ring_after_walk f_ring_after_walk d_ring_after_walk
  n_ring_after_walk : mg "ring_after_walk" = some (.ref f_ring_after_walk)
  b_ring_after_walk : Binds K d_ring_after_walk ["roster", "ring", "walk"] []
  f__after_ring_step : Addr
  d__after_ring_step : FuncData
  F__after_ring_step : Fun K "_after_ring_step" "_after_ring_step" S__after_ring_step f__after_ring_step d__after_ring_step
  n__after_ring_step : mg "_after_ring_step" = some (.ref f__after_ring_step)
  b__after_ring_step : Binds K d__after_ring_step ["roster", "ring", "step"] []
  f__law_begin : Addr
  d__law_begin : FuncData
  F__law_begin : Fun K "_law_begin" "_law_begin" S__law_begin f__law_begin d__law_begin
  n__law_begin : mg "_law_begin" = some (.ref f__law_begin)
  b__law_begin : Binds K d__law_begin ["script"] []
  f__law_mixed : Addr
  d__law_mixed : FuncData
  F__law_mixed : Fun K "_law_mixed" "_law_mixed" S__law_mixed f__law_mixed d__law_mixed
  n__law_mixed : mg "_law_mixed" = some (.ref f__law_mixed)
  b__law_mixed : Binds K d__law_mixed ["cell", "k"] []
  f__law_next : Addr
  d__law_next : FuncData
  F__law_next : Fun K "_law_next" "_law_next" S__law_next f__law_next d__law_next
  n__law_next : mg "_law_next" = some (.ref f__law_next)
  b__law_next : Binds K d__law_next ["draw", "bound"] []
  f__law_roster : Addr
  d__law_roster : FuncData
  F__law_roster : Fun K "_law_roster" "_law_roster" S__law_roster f__law_roster d__law_roster
  n__law_roster : mg "_law_roster" = some (.ref f__law_roster)
  b__law_roster : Binds K d__law_roster ["draw"] []
  f__law_circle : Addr
  d__law_circle : FuncData
  F__law_circle : Fun K "_law_circle" "_law_circle" S__law_circle f__law_circle d__law_circle
  n__law_circle : mg "_law_circle" = some (.ref f__law_circle)
  b__law_circle : Binds K d__law_circle ["draw", "table", "most"] []
  f__law_crew : Addr
  d__law_crew : FuncData
  F__law_crew : Fun K "_law_crew" "_law_crew" S__law_crew f__law_crew d__law_crew
  n__law_crew : mg "_law_crew" = some (.ref f__law_crew)
  b__law_crew : Binds K d__law_crew ["sizes", "row", "at"] []
  f__law_moved : Addr
  d__law_moved : FuncData
  F__law_moved : Fun K "_law_moved" "_law_moved" S__law_moved f__law_moved d__law_moved
  n__law_moved : mg "_law_moved" = some (.ref f__law_moved)
  b__law_moved : Binds K d__law_moved ["sizes", "row", "step"] []
  f__law_raised : Addr
  d__law_raised : FuncData
  F__law_raised : Fun K "_law_raised" "_law_raised" S__law_raised f__law_raised d__law_raised
  n__law_raised : mg "_law_raised" = some (.ref f__law_raised)
  b__law_raised : Binds K d__law_raised ["call"] []
  f__law_step_right : Addr
  d__law_step_right : FuncData
  F__law_step_right : Fun K "_law_step_right" "_law_step_right" S__law_step_right f__law_step_right d__law_step_right
  n__law_step_right : mg "_law_step_right" = some (.ref f__law_step_right)
  b__law_step_right : Binds K d__law_step_right ["table", "row", "step", "due"] []
  f__law_badge_right : Addr
  d__law_badge_right : FuncData
  F__law_badge_right : Fun K "_law_badge_right" "_law_badge_right" S__law_badge_right f__law_badge_right d__law_badge_right
  n__law_badge_right : mg "_law_badge_right" = some (.ref f__law_badge_right)
  b__law_badge_right : Binds K d__law_badge_right ["draw", "table", "row"] []
  f__law_right : Addr
  d__law_right : FuncData
  F__law_right : Fun K "_law_right" "_law_right" S__law_right f__law_right d__law_right
  n__law_right : mg "_law_right" = some (.ref f__law_right)
  b__law_right : Binds K d__law_right ["table", "row"] []
  f_law : Addr
  d_law : FuncData
  F_law : Fun K "law" "law" S_law f_law d_law
  n_law : mg "law" = some (.ref f_law)
  b_law : Binds K d_law ["script"] []
  lc__law_step_right : Addr
  lp__law_step_right : Addr
  dc__law_step_right : d__law_step_right.code = .ref lc__law_step_right
  tb__law_step_right : LamX.TabB base mg lc__law_step_right lp__law_step_right
  lc__law_badge_right : Addr
  lp__law_badge_right : Addr
  dc__law_badge_right : d__law_badge_right.code = .ref lc__law_badge_right
  tb__law_badge_right : LamX.TabB base mg lc__law_badge_right lp__law_badge_right
  tbU : ∀ p ∈ ([(lp__law_step_right, lamName "_law_step_right"), (lp__law_badge_right, lamName "_law_badge_right")] : List (Addr × Str)), ∀ q ∈ ([(lp__law_step_right, lamName "_law_step_right"), (lp__law_badge_right, lamName "_law_badge_right")] : List (Addr × Str)), p.1 = q.1 → p.2 = q.2
  kb_ring_steps_of_2_badge : KBinds K d_ring_steps_of ["roster", "ring", "badge"] ["badge"] (gK 2 1 [0]) (gK 2 1 [0])
  kb_ring_crews_at_0_ring_roster : KBinds K d_ring_crews_at ["roster", "ring"] ["ring", "roster"] (gK 0 2 [1, 0]) (gK 0 2 [1, 0])
  kb_ring_steps_of_0_badge_ring_roster : KBinds K d_ring_steps_of ["roster", "ring", "badge"] ["badge", "ring", "roster"] (gK 0 3 [2, 1, 0]) (gK 0 3 [2, 1, 0])
  C_InvalidRoster : Addr
  i_InvalidRoster : Addr
  e_InvalidRoster : FuncData
  T_InvalidRoster : Eg K mg "InvalidRoster" C_InvalidRoster i_InvalidRoster "entry"
  I_InvalidRoster : Fun K "__init__" "InvalidRoster.__init__" I0_InvalidRoster i_InvalidRoster e_InvalidRoster
  bi_InvalidRoster : Binds K e_InvalidRoster ["self", "entry"] []
  C_InvalidPeople : Addr
  i_InvalidPeople : Addr
  e_InvalidPeople : FuncData
  T_InvalidPeople : Eg K mg "InvalidPeople" C_InvalidPeople i_InvalidPeople "place"
  I_InvalidPeople : Fun K "__init__" "InvalidPeople.__init__" I0_InvalidPeople i_InvalidPeople e_InvalidPeople
  bi_InvalidPeople : Binds K e_InvalidPeople ["self", "place"] []
  C_InvalidBadge : Addr
  i_InvalidBadge : Addr
  e_InvalidBadge : FuncData
  T_InvalidBadge : Eg K mg "InvalidBadge" C_InvalidBadge i_InvalidBadge "badge"
  I_InvalidBadge : Fun K "__init__" "InvalidBadge.__init__" I0_InvalidBadge i_InvalidBadge e_InvalidBadge
  bi_InvalidBadge : Binds K e_InvalidBadge ["self", "badge"] []
  C_InvalidWalk : Addr
  i_InvalidWalk : Addr
  e_InvalidWalk : FuncData
  T_InvalidWalk : Eg K mg "InvalidWalk" C_InvalidWalk i_InvalidWalk "index"
  I_InvalidWalk : Fun K "__init__" "InvalidWalk.__init__" I0_InvalidWalk i_InvalidWalk e_InvalidWalk
  bi_InvalidWalk : Binds K e_InvalidWalk ["self", "index"] []
  C_NotPossible : Addr
  i_NotPossible : Addr
  e_NotPossible : FuncData
  T_NotPossible : Eg K mg "NotPossible" C_NotPossible i_NotPossible "index"
  I_NotPossible : Fun K "__init__" "NotPossible.__init__" I0_NotPossible i_NotPossible e_NotPossible
  bi_NotPossible : Binds K e_NotPossible ["self", "index"] []
  C_CrewError : Addr
  n_CrewError : mg "CrewError" = some (.ref C_CrewError)
  C_StateError : Addr
  n_StateError : mg "StateError" = some (.ref C_StateError)
  C_MissingError : Addr
  n_MissingError : mg "MissingError" = some (.ref C_MissingError)
  n_InvalidRoster : mg "InvalidRoster" = some (.ref C_InvalidRoster)
  n_InvalidPeople : mg "InvalidPeople" = some (.ref C_InvalidPeople)
  n_InvalidBadge : mg "InvalidBadge" = some (.ref C_InvalidBadge)
  n_InvalidWalk : mg "InvalidWalk" = some (.ref C_InvalidWalk)
  n_NotPossible : mg "NotPossible" = some (.ref C_NotPossible)
  x_all : ∀ q ∈ ([("InvalidRoster", C_InvalidRoster), ("InvalidPeople", C_InvalidPeople), ("InvalidBadge", C_InvalidBadge), ("InvalidWalk", C_InvalidWalk), ("NotPossible", C_NotPossible)] : List (Str × Addr)), XfC K q.2 ∧ ExcC K q.2
  x_exm_CrewError_StateError_MissingError : ∀ q ∈ ([("InvalidRoster", C_InvalidRoster), ("InvalidPeople", C_InvalidPeople), ("InvalidBadge", C_InvalidBadge), ("InvalidWalk", C_InvalidWalk), ("NotPossible", C_NotPossible)] : List (Str × Addr)), PySem.W.exmAny K (.ref q.2) [.ref C_CrewError, .ref C_StateError, .ref C_MissingError] = some true
  x_is_NotPossible : ∀ q ∈ ([("InvalidRoster", C_InvalidRoster), ("InvalidPeople", C_InvalidPeople), ("InvalidBadge", C_InvalidBadge), ("InvalidWalk", C_InvalidWalk), ("NotPossible", C_NotPossible)] : List (Str × Addr)), PySem.W.kitOne K (.ref q.2) (.ref C_NotPossible) = some (decide (q.1 = "NotPossible"))
  x_is_InvalidBadge : ∀ q ∈ ([("InvalidRoster", C_InvalidRoster), ("InvalidPeople", C_InvalidPeople), ("InvalidBadge", C_InvalidBadge), ("InvalidWalk", C_InvalidWalk), ("NotPossible", C_NotPossible)] : List (Str × Addr)), PySem.W.kitOne K (.ref q.2) (.ref C_InvalidBadge) = some (decide (q.1 = "InvalidBadge"))
  x_ib_RuntimeError : ∀ q ∈ ([("InvalidRoster", C_InvalidRoster), ("InvalidPeople", C_InvalidPeople), ("InvalidBadge", C_InvalidBadge), ("InvalidWalk", C_InvalidWalk), ("NotPossible", C_NotPossible)] : List (Str × Addr)), PySem.W.kitOne K (.ref q.2) (.type "RuntimeError") = some (decide (q.1 ∈ (["NotPossible"] : List Str)))
  x_ib_ValueError : ∀ q ∈ ([("InvalidRoster", C_InvalidRoster), ("InvalidPeople", C_InvalidPeople), ("InvalidBadge", C_InvalidBadge), ("InvalidWalk", C_InvalidWalk), ("NotPossible", C_NotPossible)] : List (Str × Addr)), PySem.W.kitOne K (.ref q.2) (.type "ValueError") = some (decide (q.1 ∈ (["InvalidRoster", "InvalidPeople", "InvalidBadge", "InvalidWalk"] : List Str)))
  k_MAX_BADGES : ∃ u, mg "MAX_BADGES" = some u ∧ RelV (.int 4) u
  k_MAX_SIZE : ∃ u, mg "MAX_SIZE" = some u ∧ RelV (.int 5) u
  k_MAX_PEOPLE : ∃ u, mg "MAX_PEOPLE" = some u ∧ RelV (.int 12) u
  k_MAX_WALK : ∃ u, mg "MAX_WALK" = some u ∧ RelV (.int 1000) u
  z_isinstance : mg "isinstance" = none
  z_int : mg "int" = none
  z_bool : mg "bool" = none
  z_enumerate : mg "enumerate" = none
  z_tuple : mg "tuple" = none
  z_len : mg "len" = none
  z_str : mg "str" = none
  z_dict : mg "dict" = none
  z_range : mg "range" = none
  z_max : mg "max" = none
  z_list : mg "list" = none
  z_RuntimeError : mg "RuntimeError" = none
  z_repr : mg "repr" = none
  z_ValueError : mg "ValueError" = none
  z_min : mg "min" = none
section
variable {P : Program} {w : World} {K : PySem.W.Frag} {mg : Str → Option Value} {base : Heap}
def Wd.cls (Z : Wd K mg base) : List (Str × Addr) := [("InvalidRoster", Z.C_InvalidRoster), ("InvalidPeople", Z.C_InvalidPeople), ("InvalidBadge", Z.C_InvalidBadge), ("InvalidWalk", Z.C_InvalidWalk), ("NotPossible", Z.C_NotPossible)]
def Wd.tb (Z : Wd K mg base) : List (Addr × Str) := [(Z.lp__law_step_right, lamName "_law_step_right"), (Z.lp__law_badge_right, lamName "_law_badge_right")]
theorem Wd.t__law_step_right (Z : Wd K mg base) : (Z.lp__law_step_right, lamName "_law_step_right") ∈ Z.tb := by unfold Wd.tb; simp
theorem Wd.u__law_step_right (Z : Wd K mg base) : ∀ p ∈ Z.tb, p.1 = Z.lp__law_step_right → p.2 = lamName "_law_step_right" := fun p hp e => Z.tbU p hp _ Z.t__law_step_right e
theorem Wd.t__law_badge_right (Z : Wd K mg base) : (Z.lp__law_badge_right, lamName "_law_badge_right") ∈ Z.tb := by unfold Wd.tb; simp
theorem Wd.u__law_badge_right (Z : Wd K mg base) : ∀ p ∈ Z.tb, p.1 = Z.lp__law_badge_right → p.2 = lamName "_law_badge_right" := fun p hp e => Z.tbU p hp _ Z.t__law_badge_right e
def Wd.cl (Z : Wd K mg base) : Str → Option Addr := fun n => Z.cls.lookup n
theorem Wd.of_cl (Z : Wd K mg base) {n : Str} {C : Addr} (h : Z.cl n = some C) : (n, C) ∈ Z.cls := look_mem h
theorem Wd.cl_InvalidRoster (Z : Wd K mg base) : Z.cl "InvalidRoster" = some Z.C_InvalidRoster := by rfl
theorem scI_InvalidRoster : FnScope ["self", "entry"] ["self", "entry"] (defScope I0_InvalidRoster) := ⟨rfl, rfl, rfl, by decide +kernel, rfl, by decide +kernel, by decide +kernel⟩
theorem ini_InvalidRoster (Z : Wd K mg base) : FnOk P w K mg base (L2.CX P w) 1 Z.i_InvalidRoster Z.e_InvalidRoster ["self", "entry"] (spIni Z.C_InvalidRoster "entry") := ini_og Z.T_InvalidRoster Z.I_InvalidRoster scI_InvalidRoster rfl (Or.inl rfl) (Or.inl rfl) (by decide) (by decide)
theorem Wd.cl_InvalidPeople (Z : Wd K mg base) : Z.cl "InvalidPeople" = some Z.C_InvalidPeople := by rfl
theorem scI_InvalidPeople : FnScope ["self", "place"] ["self", "place"] (defScope I0_InvalidPeople) := ⟨rfl, rfl, rfl, by decide +kernel, rfl, by decide +kernel, by decide +kernel⟩
theorem ini_InvalidPeople (Z : Wd K mg base) : FnOk P w K mg base (L2.CX P w) 1 Z.i_InvalidPeople Z.e_InvalidPeople ["self", "place"] (spIni Z.C_InvalidPeople "place") := ini_og Z.T_InvalidPeople Z.I_InvalidPeople scI_InvalidPeople rfl (Or.inl rfl) (Or.inl rfl) (by decide) (by decide)
theorem Wd.cl_InvalidBadge (Z : Wd K mg base) : Z.cl "InvalidBadge" = some Z.C_InvalidBadge := by rfl
theorem scI_InvalidBadge : FnScope ["self", "badge"] ["self", "badge"] (defScope I0_InvalidBadge) := ⟨rfl, rfl, rfl, by decide +kernel, rfl, by decide +kernel, by decide +kernel⟩
theorem ini_InvalidBadge (Z : Wd K mg base) : FnOk P w K mg base (L2.CX P w) 1 Z.i_InvalidBadge Z.e_InvalidBadge ["self", "badge"] (spIni Z.C_InvalidBadge "badge") := ini_og Z.T_InvalidBadge Z.I_InvalidBadge scI_InvalidBadge rfl (Or.inl rfl) (Or.inl rfl) (by decide) (by decide)
theorem Wd.cl_InvalidWalk (Z : Wd K mg base) : Z.cl "InvalidWalk" = some Z.C_InvalidWalk := by rfl
theorem scI_InvalidWalk : FnScope ["self", "index"] ["self", "index"] (defScope I0_InvalidWalk) := ⟨rfl, rfl, rfl, by decide +kernel, rfl, by decide +kernel, by decide +kernel⟩
theorem ini_InvalidWalk (Z : Wd K mg base) : FnOk P w K mg base (L2.CX P w) 1 Z.i_InvalidWalk Z.e_InvalidWalk ["self", "index"] (spIni Z.C_InvalidWalk "index") := ini_og Z.T_InvalidWalk Z.I_InvalidWalk scI_InvalidWalk rfl (Or.inl rfl) (Or.inl rfl) (by decide) (by decide)
theorem Wd.cl_NotPossible (Z : Wd K mg base) : Z.cl "NotPossible" = some Z.C_NotPossible := by rfl
theorem scI_NotPossible : FnScope ["self", "index"] ["self", "index"] (defScope I0_NotPossible) := ⟨rfl, rfl, rfl, by decide +kernel, rfl, by decide +kernel, by decide +kernel⟩
theorem ini_NotPossible (Z : Wd K mg base) : FnOk P w K mg base (L2.CX P w) 1 Z.i_NotPossible Z.e_NotPossible ["self", "index"] (spIni Z.C_NotPossible "index") := ini_og Z.T_NotPossible Z.I_NotPossible scI_NotPossible rfl (Or.inl rfl) (Or.inl rfl) (by decide) (by decide)
theorem Wd.xf (Z : Wd K mg base) : ∀ n C, Z.cl n = some C → XfC K C := fun n C h => (Z.x_all _ (Z.of_cl h)).1
theorem Wd.exm_CrewError_StateError_MissingError (Z : Wd K mg base) : ∀ n C, Z.cl n = some C → PySem.W.exmAny K (.ref C) [.ref Z.C_CrewError, .ref Z.C_StateError, .ref Z.C_MissingError] = some true := fun n C h => Z.x_exm_CrewError_StateError_MissingError _ (Z.of_cl h)
theorem Wd.is_NotPossible (Z : Wd K mg base) : ∀ n C, Z.cl n = some C → ExcC K C ∧ PySem.W.kitOne K (.ref C) (.ref Z.C_NotPossible) = some ((fun n : Str => decide (n = "NotPossible")) n) := fun n C h => ⟨(Z.x_all _ (Z.of_cl h)).2, Z.x_is_NotPossible _ (Z.of_cl h)⟩
theorem Wd.is_InvalidBadge (Z : Wd K mg base) : ∀ n C, Z.cl n = some C → ExcC K C ∧ PySem.W.kitOne K (.ref C) (.ref Z.C_InvalidBadge) = some ((fun n : Str => decide (n = "InvalidBadge")) n) := fun n C h => ⟨(Z.x_all _ (Z.of_cl h)).2, Z.x_is_InvalidBadge _ (Z.of_cl h)⟩
theorem Wd.ib_RuntimeError (Z : Wd K mg base) : ∀ n C, Z.cl n = some C → ExcC K C ∧ PySem.W.kitOne K (.ref C) (.type "RuntimeError") = some ((fun n : Str => decide (n ∈ (["NotPossible"] : List Str))) n) := fun n C h => ⟨(Z.x_all _ (Z.of_cl h)).2, Z.x_ib_RuntimeError _ (Z.of_cl h)⟩
theorem Wd.ib_ValueError (Z : Wd K mg base) : ∀ n C, Z.cl n = some C → ExcC K C ∧ PySem.W.kitOne K (.ref C) (.type "ValueError") = some ((fun n : Str => decide (n ∈ (["InvalidRoster", "InvalidPeople", "InvalidBadge", "InvalidWalk"] : List Str))) n) := fun n C h => ⟨(Z.x_all _ (Z.of_cl h)).2, Z.x_ib_ValueError _ (Z.of_cl h)⟩
theorem Wd.ff_entry (Z : Wd K mg base) : ∀ n ∈ (["InvalidRoster"] : List Str), ∀ C, Z.cl n = some C → PySem.W.findIn K (.ref C) "entry" = some none := by
  intro n hn C h
  simp only [List.mem_cons, List.not_mem_nil, or_false] at hn
  subst hn
  · rw [Z.cl_InvalidRoster] at h; cases h; exact Z.T_InvalidRoster.nf
theorem Wd.ff_place (Z : Wd K mg base) : ∀ n ∈ (["InvalidPeople"] : List Str), ∀ C, Z.cl n = some C → PySem.W.findIn K (.ref C) "place" = some none := by
  intro n hn C h
  simp only [List.mem_cons, List.not_mem_nil, or_false] at hn
  subst hn
  · rw [Z.cl_InvalidPeople] at h; cases h; exact Z.T_InvalidPeople.nf
theorem Wd.ff_badge (Z : Wd K mg base) : ∀ n ∈ (["InvalidBadge"] : List Str), ∀ C, Z.cl n = some C → PySem.W.findIn K (.ref C) "badge" = some none := by
  intro n hn C h
  simp only [List.mem_cons, List.not_mem_nil, or_false] at hn
  subst hn
  · rw [Z.cl_InvalidBadge] at h; cases h; exact Z.T_InvalidBadge.nf
theorem Wd.ff_index (Z : Wd K mg base) : ∀ n ∈ (["InvalidWalk", "NotPossible"] : List Str), ∀ C, Z.cl n = some C → PySem.W.findIn K (.ref C) "index" = some none := by
  intro n hn C h
  simp only [List.mem_cons, List.not_mem_nil, or_false] at hn
  rcases hn with rfl | rfl
  · rw [Z.cl_InvalidWalk] at h; cases h; exact Z.T_InvalidWalk.nf
  · rw [Z.cl_NotPossible] at h; cases h; exact Z.T_NotPossible.nf
end
local macro_rules | `(tactic| walk_at "rn") => `(tactic| (first
  | ((with_reducible refine' n_var ?hv ?_); (case hv => exact rfl))
  | with_reducible refine n_c ?_
  | with_reducible refine n_op ?_
  | with_reducible refine n_un ?_
  | with_reducible refine n_I0 ?_
  | with_reducible refine n_U ?_
  | ((with_reducible refine n_mod ?hc ?_); (case hc => first | decide | omega))
  | ((with_reducible refine n_mul ?hc ?_); (case hc => first | (left; omega) | (right; omega)))
  | ((with_reducible refine n_div ?hc ?_); (case hc => first | decide | omega))
  | ((with_reducible refine n_pow ?hc ?_); (case hc => first | decide | omega))
  | ((with_reducible refine n_eq ?hc ?_); (case hc => exact rfl))
  | ((with_reducible refine n_ne ?hc ?_); (case hc => exact rfl))
  | with_reducible refine n_nil ?_
  | with_reducible refine n_cons ?_
  | with_reducible refine n_tup ?_
  | with_reducible refine n_lst ?_
  | with_reducible refine n_cb ?_
  | with_reducible refine n_callS ?_
  | with_reducible refine n_callGK ?_
  | with_reducible refine n_if ?_
  | with_reducible refine n_test ?_
  | with_reducible refine n_tB ?_
  | with_reducible refine n_bl ?_
  | with_reducible refine n_not ?_
  | with_reducible refine n_and ?_
  | with_reducible refine n_or ?_
  | with_reducible refine n_andV ?_
  | with_reducible refine n_orV ?_
  | with_reducible refine n_notV ?_
  | with_reducible refine n_tdg ?_
  | with_reducible refine m_seq ?_
  | with_reducible refine m_asg ?_
  | with_reducible refine m_asgG ?_
  | with_reducible refine n_gnil ?_
  | with_reducible refine n_gcons ?_
  | with_reducible refine n_sl ?_
  | with_reducible refine n_nop ?_
  | with_reducible refine n_part ?_
  | with_reducible refine n_int ?_
  | with_reducible refine m_ret ?_
  | with_reducible refine m_drop ?_
  | with_reducible refine m_next ?_
  | with_reducible refine m_if ?_
  | with_reducible refine m_dput ?_
  | with_reducible refine m_gn ?_
  | with_reducible refine m_par ?_
  | with_reducible refine n_vw ?_
  | with_reducible refine m_for ?_
  | with_reducible refine n_rng1 ?_
  | with_reducible refine n_bm ?_
  | with_reducible refine n_bm0 ?_
  | with_reducible refine n_chain ?_
  | with_reducible refine m_rz ?_
  | with_reducible refine n_iet ?_
  | with_reducible refine n_ies ?_
  | with_reducible refine n_itup ?_
  | with_reducible refine n_ilist ?_
  | with_reducible refine n_istr ?_
  | with_reducible refine n_m1 ?_
  | with_reducible refine n_strA ?_
  | with_reducible refine n_lc ?_
  | with_reducible refine n_yes ?_
  | with_reducible refine n_xo ?_
  | (with_reducible refine iteT ?_)
  | (with_reducible refine iteF ?_)))
local macro_rules | `(tactic| walk_at "run") => `(tactic| repeat (walk_at "rn"))


section
variable {P : Program} {w : World} {K : PySem.W.Frag} {mg : Str → Option Value} {base : Heap}
theorem scM : FnScope ["cell", "k", "mixed"] ["cell", "k"] (defScope sMixed) := ⟨rfl, rfl, rfl, by decide +kernel, rfl, by decide +kernel, by decide +kernel⟩
theorem ok_mixed {f : Addr} {fd : FuncData} (F : Fun K "_law_mixed" "_law_mixed" sMixed f fd) : FnG P w K mg base 1 f fd ["cell", "k"] spMixed := by
  refine def_ok F scM (fun vs H Q E h => ?_) (fun cdv A fr s H vs Q E c h => ?_)
  · obtain ⟨_, _, rfl, _⟩ := h
    rfl
  · obtain ⟨cell, k, rfl, k0, k1, go⟩ := h
    refine ⟨_, pss_cons (ps_set (i := 2) scM.nd rfl (Or.inl rfl) (pe_op op_mod (pe_op op_add (pe_op op_add (pe_op op_add (pe_op op_mod (pv 0) pe_int) (pe_op op_mul (pe_op op_mul pe_int (pv 1)) (pv 1))) (pe_op op_mul pe_int (pv 1))) pe_int) pe_int))
      (pss_cons (ps_set (i := 2) scM.nd rfl (Or.inl rfl) (pe_op op_mod (pe_op op_mul (pe_op op_mod (pe_op op_mul (pv 2) (pv 2)) pe_int) (pv 2)) pe_int))
      (pss_one (ps_ret (pe_op op_fdiv (pe_op op_mod (pe_op op_mul (pv 2) (pe_op op_add pe_int (pe_op op_mul pe_int (pe_op op_mod (pv 1) pe_int)))) pe_int) pe_int)))), ?_⟩
    walk_at "run"
    exact go _
theorem scB : FnScope ["script"] ["script"] (defScope sBegin) := ⟨rfl, rfl, rfl, by decide +kernel, rfl, by decide +kernel, by decide +kernel⟩
theorem ok_begin {f : Addr} {fd : FuncData} (F : Fun K "_law_begin" "_law_begin" sBegin f fd) : FnG P w K mg base 1 f fd ["script"] (spBegin K) := by
  refine def_ok F scB (fun vs H Q E h => ?_) (fun cdv A fr s H vs Q E c h => ?_)
  · obtain ⟨_, _, rfl, _⟩ := h
    rfl
  · obtain ⟨a, ns, rfl, hs, hn, go⟩ := h
    refine ⟨_, pss_one (ps_ret (pe_disp (pps_cons pe_str (pe_op op_catL (pv 0) (pe_lst (pa_cons pe_int pa_nil))) (pps_cons pe_str pe_int (pps_cons pe_str pe_int (pps_cons pe_str pe_int pps_nil)))) (by rfl) (by rfl) (fun z => by cases z) (by decide))), ?_⟩
    walk_at "run"
    intro p hp
    have e1 : ∀ b o, H b = some o → upd H p (.dK []) b = some o := fun b o h => by rw [upd_ne (ne_of_none h hp)]; exact h
    have hs1 : SqL K (upd H p (.dK [])) a (ns.map V.int) := Same.seq e1 hs
    refine ⟨_, rfl, by decide, fun l hl => ?_⟩
    have npl : p ≠ l := ne_of_none upd_same hl
    have e2 : ∀ b o, upd H p (.dK []) b = some o → upd (upd H p (.dK [])) l (.lst [V.int 0]) b = some o := fun b o h => by rw [upd_ne (ne_of_none h hl)]; exact h
    refine ⟨a, l, _, _, rfl, rfl, Same.seq e2 hs1, SqL.of upd_same, by rw [List.length_map]; exact Nat.le_trans (Nat.add_le_add_right hn 1) (by decide), fun q hq => ?_⟩
    have npq : p ≠ q := ne_of_none (e2 p _ upd_same) hq
    refine ⟨by rw [upd_ne npq]; exact e2 p _ upd_same, dkv q 0 0 0, rfl, (by show 4 ≤ 15; decide), ?_⟩
    rw [merge_dkv]
    have e3 : ∀ b o, H b = some o → b ≠ p ∧ upd (upd (upd (upd H p (.dK [])) l (.lst [V.int 0])) q (.lst (ns.map V.int ++ [V.int 0]))) p (.dK (dkv q 0 0 0)) b = some o := fun b o h => by
      have h1 : b ≠ p := ne_of_none h hp
      have h2 := e2 b o (e1 b o h)
      exact ⟨h1, by rw [upd_ne h1, upd_ne (ne_of_none h2 hq)]; exact h2⟩
    refine go p q _ hp (Same.free (fun b o h => e2 b o (e1 b o h)) hq) ⟨ns ++ [0], 0, 0, 0, upd_same, ?_, by simp, by simp; omega, by decide, by decide, by decide, by decide, by decide⟩ fun b o h => (e3 b o h).2
    rw [upd_ne (Ne.symm npq), upd_same, List.map_append]
    rfl
theorem scN : FnScope ["draw", "bound", "found", "cells", "cell"] ["draw", "bound"] (defScope sNext) := ⟨rfl, rfl, rfl, by decide +kernel, rfl, by decide +kernel, by decide +kernel⟩
theorem ok_next {f fM : Addr} {fd fdM : FuncData} (F : Fun K "_law_next" "_law_next" sNext f fd) (G : Gb mg) (FM : Fun K "_law_mixed" "_law_mixed" sMixed fM fdM) (mM : mg "_law_mixed" = some (.ref fM)) (bM : Binds K fdM ["cell", "k"] []) :
    FnG P w K mg base 2 f fd ["draw", "bound"] spNext := by
  have GM : FnG P w K mg base 1 fM fdM ["cell", "k"] spMixed := ok_mixed FM
  refine def_ok F scN (fun vs H Q E h => ?_) (fun cdv A fr s H vs Q E c h => ?_)
  · obtain ⟨_, _, _, _, rfl, _⟩ := h
    rfl
  · obtain ⟨p, cc, b, m, rfl, ⟨ns, a, l, u, hp, hc, n0, n1, a0, a1, l0, u0, u1⟩, hm, b0, b1, go⟩ := h
    have hu := hu_of c.room
    have npc : cc ≠ p := ne_of hc hp (by intro z; cases z)
    refine ⟨_, pss_cons (ps_if (pt_cmpR op_gt (pe_dget hu (pv 0) pe_str (fun _ _ => rfl)) pe_int (nomark _))
        (pss_cons (ps_set (i := 2) scN.nd rfl (Or.inl rfl) (pe_op op_mod (pe_dget hu (pv 0) pe_str (fun _ _ => rfl)) (pv 1)))
        (pss_cons (ps_dput hu (pv 0) pe_str (pe_op op_fdiv (pe_dget hu (pv 0) pe_str (fun _ _ => rfl)) (pv 1)) rfl)
        (pss_one (ps_ret (pv 2))))) pss_nil)
      (pss_cons (ps_set (i := 3) scN.nd rfl (Or.inl rfl) (pe_dget hu (pv 0) pe_str (fun _ _ => rfl)))
      (pss_cons (ps_set (i := 4) scN.nd rfl (Or.inl rfl) (pe_ix ix_list (pv 3) (pe_op op_mod (pe_dget hu (pv 0) pe_str (fun _ _ => rfl)) (pe_callB call_len_seq (by rfl) G.len PySem.boot_len (pa_cons (pv 3) pa_nil))) (fun _ _ => rfl)))
      (pss_cons (ps_dput hu (pv 0) pe_str (pe_op op_add (pe_dget hu (pv 0) pe_str (fun _ _ => rfl)) pe_int) rfl)
      (pss_cons (ps_if (PW.pt (pw_and (pt_cmpR op_ge (pv 4) (pe_op op_pow pe_int pe_int) (nomark _)) (pw_and1 (pt_cmpR op_le (pe_dget hu (pv 0) pe_str (fun _ _ => rfl)) (pe_callB call_len_seq (by rfl) G.len PySem.boot_len (pa_cons (pv 3) pa_nil)) (nomark _)))))
        (pss_cons (ps_dput hu (pv 0) pe_str (pe_op op_fdiv (pv 4) (pv 1)) rfl) (pss_one (ps_ret (pe_op op_mod (pv 4) (pv 1))))) pss_nil)
      (pss_cons (ps_dput hu (pv 0) pe_str (pe_op op_add (pe_dget hu (pv 0) pe_str (fun _ _ => rfl)) pe_int) rfl)
      (pss_one (ps_ret (pe_op op_mod (pe_g GM (c.mono (by decide)) rfl mM FM.kp bM quiets (pa_cons (pe_g GM (c.mono (by decide)) rfl mM FM.kp bM quiets (pa_cons (pv 4) (pa_cons (pe_dget hu (pv 0) pe_str (fun _ _ => rfl)) pa_nil))) (pa_cons (pe_dget hu (pv 0) pe_str (fun _ _ => rfl)) pa_nil))) (pv 1))))))))), ?_⟩
    walk_at "run"
    refine n_dg hp g_left ?_
    walk_at "run"
    refine n_ite (fun hl => ?_) (fun hl => ?_)
    · walk_at "run"
      refine n_dg hp g_left ?_
      walk_at "run"
      refine n_dg hp g_left ?_
      walk_at "run"
      refine n_dp hp p_left (by show 4 ≤ 1000; decide) ?_
      walk_at "run"
      refine go _ _ (Int.emod_nonneg _ (by omega)) (Int.emod_lt_of_pos _ b0) ⟨ns, a, l / b, u, upd_same, by rw [upd_ne npc]; exact hc, n0, n1, a0, by omega, Int.ediv_nonneg l0 (by omega), u0, by omega⟩ Kp.upd
    · walk_at "run"
      refine n_dg hp g_cells ?_
      walk_at "run"
      refine n_dg hp g_at ?_
      walk_at "run"
      refine ⟨_, _, rfl, Or.inl (SqL.of hc), ?_⟩
      have hlen : 0 < ((ns.map V.int).length : Int) := by rw [List.length_map]; omega
      walk_at "run"
      obtain ⟨cell, hcell⟩ := at_ints (ns := ns) (Int.emod_nonneg a (by omega)) (Int.emod_lt_of_pos a hlen)
      refine ⟨_, _, _, _, rfl, rfl, SqL.of hc, hcell, ?_⟩
      walk_at "run"
      refine n_dg hp g_at ?_
      walk_at "run"
      refine n_dp hp p_at (by show 4 ≤ 1000; decide) ?_
      have hc1 : ∀ o, upd H p o cc = some (.lst (ns.map V.int)) := fun o => by rw [upd_ne npc]; exact hc
      walk_at "run"
      refine n_ite (fun hg => ?_) (fun hg => ?_)
      · walk_at "run"
        refine n_dg upd_same g_at ?_
        walk_at "run"
        refine ⟨_, _, rfl, Or.inl (SqL.of (hc1 _)), ?_⟩
        walk_at "run"
        refine n_ite (fun hh => ?_) (fun hh => ?_)
        · walk_at "run"
          refine n_dp upd_same p_left (by show 4 ≤ 1000; decide) ?_
          walk_at "run"
          have hc0 : 0 ≤ cell := Int.le_trans (by decide : (0 : Int) ≤ 10 ^ (Int.toNat 18)) (d_true hg)
          exact go _ _ (Int.emod_nonneg _ (by omega)) (Int.emod_lt_of_pos _ b0) ⟨ns, a + 1, cell / b, u, upd_same, by rw [upd_ne npc]; exact hc1 _, n0, n1, by omega, by omega, Int.ediv_nonneg hc0 (by omega), u0, by omega⟩ (Kp.upd.trans Kp.upd)
        · walk_at "run"
          refine n_dg upd_same g_used ?_
          walk_at "run"
          refine n_dp upd_same p_used (by show 4 ≤ 1000; decide) ?_
          walk_at "run"
          refine n_dg upd_same g_at ?_
          walk_at "run"
          refine ⟨_, _, rfl, by omega, by omega, fun v1 => ?_⟩
          walk_at "run"
          refine n_dg upd_same g_used ?_
          walk_at "run"
          refine ⟨_, _, rfl, by omega, by omega, fun v2 => ?_⟩
          walk_at "run"
          exact go _ _ (Int.emod_nonneg _ (by omega)) (Int.emod_lt_of_pos _ b0) ⟨ns, a + 1, l, u + 1, upd_same, by rw [upd_ne npc]; exact hc1 _, n0, n1, by omega, by omega, l0, by omega, by omega⟩ (Kp.upd.trans Kp.upd)
      · walk_at "run"
        refine n_dg upd_same g_used ?_
        walk_at "run"
        refine n_dp upd_same p_used (by show 4 ≤ 1000; decide) ?_
        walk_at "run"
        refine n_dg upd_same g_at ?_
        walk_at "run"
        refine ⟨_, _, rfl, by omega, by omega, fun v1 => ?_⟩
        walk_at "run"
        refine n_dg upd_same g_used ?_
        walk_at "run"
        refine ⟨_, _, rfl, by omega, by omega, fun v2 => ?_⟩
        walk_at "run"
        exact go _ _ (Int.emod_nonneg _ (by omega)) (Int.emod_lt_of_pos _ b0) ⟨ns, a + 1, l, u + 1, upd_same, by rw [upd_ne npc]; exact hc1 _, n0, n1, by omega, by omega, l0, by omega, by omega⟩ (Kp.upd.trans Kp.upd)
end

section
variable {P : Program} {w : World} {K : PySem.W.Frag} {mg : Str → Option Value} {base : Heap}
theorem ok__law_begin (Z : Wd K mg base) : FnG P w K mg base 1 Z.f__law_begin Z.d__law_begin ["script"] (spBegin K) := ok_begin Z.F__law_begin
theorem ok__law_next (Z : Wd K mg base) : FnG P w K mg base 2 Z.f__law_next Z.d__law_next ["draw", "bound"] (spD K Z.cl Z.tb nextF) := next_d (ok_next Z.F__law_next ⟨Z.z_len⟩ Z.F__law_mixed Z.n__law_mixed Z.b__law_mixed)
end
end My
end
section
set_option Elab.async false
set_option linter.all false
set_option maxRecDepth 100000
set_option maxHeartbeats 4000000
namespace My
open PySem PySem.Spec PyProof.Rows L2 XK EV
noncomputable section
variable {P : Program} {w : World} {K : PySem.W.Frag} {mg : Str → Option Value} {base : Heap}
abbrev N_is_int : List Str := ["thing"]
theorem sc_is_int : FnScope N_is_int ["thing"] (defScope S_is_int) := ⟨rfl, rfl, rfl, by decide +kernel, rfl, by decide +kernel, by decide +kernel⟩
def m_is_int : Sm := (mRet ((eAnd ((eIsT "int" (vr 0))) ((eNot ((eIsT "bool" (vr 0))))))))
def s_is_int : List Val → R := runP (["thing"] : List Str).length (N_is_int).length m_is_int
theorem go_is_int {a0 d : Val} (h : Al (m_is_int [some a0]) 0 (isRt d) (fun _ _ => False)) : s_is_int [a0] = .ret d := go_run (ds := [a0]) (np := (["thing"] : List Str).length) (N := (N_is_int).length) (m := m_is_int) (e := [some a0]) rfl rfl h
theorem ge_is_int {a0 : Val} {x : Err} (h : Al (m_is_int [some a0]) 0 (isEx x) (fun e _ => e = x)) : s_is_int [a0] = .err x := ge_run (ds := [a0]) (np := (["thing"] : List Str).length) (N := (N_is_int).length) (m := m_is_int) (e := [some a0]) rfl rfl h
theorem ok_is_int (Z : Wd K mg base) : FnG P w K mg base 1 Z.f_is_int Z.d_is_int ["thing"] (spP K Z.cl Z.tb s_is_int) :=
  def_pC (N := N_is_int) (m := m_is_int) [] Z.F_is_int sc_is_int (by decide) fun cdv A fr s H S E hcd cm =>
    have hu := cm.room.units
    (s_one (s_ret (d_and (d_isT (T := "int") rfl rfl Z.z_isinstance (pe_ty (T := "int") rfl Z.z_int (by decide +kernel)) (d_w (d_v (mn rfl) (pv 0)))) (d_one (d_not (d_isT (T := "bool") rfl rfl Z.z_isinstance (pe_ty (T := "bool") rfl Z.z_bool (by decide +kernel)) (d_w (d_v (mn rfl) (pv 0)))))))))
end
end My
end
section
set_option Elab.async false
set_option linter.all false
set_option maxRecDepth 100000
set_option maxHeartbeats 4000000
namespace My
open PySem PySem.Spec PyProof.Rows L2 XK EV
noncomputable section
variable {P : Program} {w : World} {K : PySem.W.Frag} {mg : Str → Option Value} {base : Heap}
abbrev N__is_badge : List Str := ["thing"]
theorem sc__is_badge : FnScope N__is_badge ["thing"] (defScope S__is_badge) := ⟨rfl, rfl, rfl, by decide +kernel, rfl, by decide +kernel, by decide +kernel⟩
def m__is_badge : Sm := (mRet ((eAnd ((eIsT "str" (vr 0))) ((eAnd ((eBin eqG ((eB vLen (aCons (vr 0) aNil))) (kI 1))) ((eChain vLe vLe (kS "a") (vr 0) (kS "z"))))))))
def s__is_badge : List Val → R := runP (["thing"] : List Str).length (N__is_badge).length m__is_badge
theorem go__is_badge {a0 d : Val} (h : Al (m__is_badge [some a0]) 0 (isRt d) (fun _ _ => False)) : s__is_badge [a0] = .ret d := go_run (ds := [a0]) (np := (["thing"] : List Str).length) (N := (N__is_badge).length) (m := m__is_badge) (e := [some a0]) rfl rfl h
theorem ge__is_badge {a0 : Val} {x : Err} (h : Al (m__is_badge [some a0]) 0 (isEx x) (fun e _ => e = x)) : s__is_badge [a0] = .err x := ge_run (ds := [a0]) (np := (["thing"] : List Str).length) (N := (N__is_badge).length) (m := m__is_badge) (e := [some a0]) rfl rfl h
theorem ok__is_badge (Z : Wd K mg base) : FnG P w K mg base 1 Z.f__is_badge Z.d__is_badge ["thing"] (spP K Z.cl Z.tb s__is_badge) :=
  def_pC (N := N__is_badge) (m := m__is_badge) [] Z.F__is_badge sc__is_badge (by decide) fun cdv A fr s H S E hcd cm =>
    have hu := cm.room.units
    (s_one (s_ret (d_and (d_isT (T := "str") rfl rfl Z.z_isinstance (pe_ty (T := "str") rfl Z.z_str (by decide +kernel)) (d_w (d_v (mn rfl) (pv 0)))) (d_and (d_cmp (op_eqP hu) sem_eq (d_w (d_callB call_lenA sem_len (by rfl) Z.z_len PySem.boot_len (w_cons (d_w (d_v (mn rfl) (pv 0))) w_nil))) (d_w d_int) (nomark _)) (d_one (d_chain op_leA op_leA sem_le sem_le (d_w d_str) (d_w (d_v (mn rfl) (pv 0))) (d_w d_str)))))))
end
end My
end
section
set_option Elab.async false
set_option linter.all false
set_option maxRecDepth 100000
set_option maxHeartbeats 4000000
namespace My
open PySem PySem.Spec PyProof.Rows L2 XK EV
noncomputable section
variable {P : Program} {w : World} {K : PySem.W.Frag} {mg : Str → Option Value} {base : Heap}
abbrev N__is_size : List Str := ["thing"]
theorem sc__is_size : FnScope N__is_size ["thing"] (defScope S__is_size) := ⟨rfl, rfl, rfl, by decide +kernel, rfl, by decide +kernel, by decide +kernel⟩
def m__is_size : Sm := (mRet ((eAnd ((eCall s_is_int (aCons (vr 0) aNil))) ((eChain vLe vLe (kI 0) (vr 0) (kI 5))))))
def s__is_size : List Val → R := runP (["thing"] : List Str).length (N__is_size).length m__is_size
theorem go__is_size {a0 d : Val} (h : Al (m__is_size [some a0]) 0 (isRt d) (fun _ _ => False)) : s__is_size [a0] = .ret d := go_run (ds := [a0]) (np := (["thing"] : List Str).length) (N := (N__is_size).length) (m := m__is_size) (e := [some a0]) rfl rfl h
theorem ge__is_size {a0 : Val} {x : Err} (h : Al (m__is_size [some a0]) 0 (isEx x) (fun e _ => e = x)) : s__is_size [a0] = .err x := ge_run (ds := [a0]) (np := (["thing"] : List Str).length) (N := (N__is_size).length) (m := m__is_size) (e := [some a0]) rfl rfl h
theorem ok__is_size (Z : Wd K mg base) : FnG P w K mg base 2 Z.f__is_size Z.d__is_size ["thing"] (spP K Z.cl Z.tb s__is_size) :=
  def_pC (N := N__is_size) (m := m__is_size) [] Z.F__is_size sc__is_size (by decide) fun cdv A fr s H S E hcd cm =>
    have hu := cm.room.units
    (s_one (s_ret (d_and (d_call (ok_is_int Z) cm rfl Z.n_is_int Z.F_is_int.kp Z.b_is_int (fun σ => passAt (takes_of rfl rfl rfl rfl) σ) (a_cons (d_v (mn rfl) (pv 0)) a_nil)) (d_one (d_chain op_leA op_leA sem_le sem_le (d_w d_int) (d_w (d_v (mn rfl) (pv 0))) (d_w (d_gi rfl Z.k_MAX_SIZE)))))))
end
end My
end
section
set_option Elab.async false
set_option linter.all false
set_option maxRecDepth 100000
set_option maxHeartbeats 4000000
namespace My
open PySem PySem.Spec PyProof.Rows L2 XK EV
noncomputable section
variable {P : Program} {w : World} {K : PySem.W.Frag} {mg : Str → Option Value} {base : Heap}
abbrev N__is_entry : List Str := ["item"]
theorem sc__is_entry : FnScope N__is_entry ["item"] (defScope S__is_entry) := ⟨rfl, rfl, rfl, by decide +kernel, rfl, by decide +kernel, by decide +kernel⟩
def m__is_entry : Sm := (mRet ((eAnd ((eIsT "tuple" (vr 0))) ((eAnd ((eBin eqG ((eB vLen (aCons (vr 0) aNil))) (kI 2))) ((eAnd ((eCall s__is_badge (aCons ((eBin vIx (vr 0) (kI 0))) aNil))) ((eCall s__is_size (aCons ((eBin vIx (vr 0) (kI 1))) aNil))))))))))
def s__is_entry : List Val → R := runP (["item"] : List Str).length (N__is_entry).length m__is_entry
theorem go__is_entry {a0 d : Val} (h : Al (m__is_entry [some a0]) 0 (isRt d) (fun _ _ => False)) : s__is_entry [a0] = .ret d := go_run (ds := [a0]) (np := (["item"] : List Str).length) (N := (N__is_entry).length) (m := m__is_entry) (e := [some a0]) rfl rfl h
theorem ge__is_entry {a0 : Val} {x : Err} (h : Al (m__is_entry [some a0]) 0 (isEx x) (fun e _ => e = x)) : s__is_entry [a0] = .err x := ge_run (ds := [a0]) (np := (["item"] : List Str).length) (N := (N__is_entry).length) (m := m__is_entry) (e := [some a0]) rfl rfl h
theorem ok__is_entry (Z : Wd K mg base) : FnG P w K mg base 3 Z.f__is_entry Z.d__is_entry ["item"] (spP K Z.cl Z.tb s__is_entry) :=
  def_pC (N := N__is_entry) (m := m__is_entry) [] Z.F__is_entry sc__is_entry (by decide) fun cdv A fr s H S E hcd cm =>
    have hu := cm.room.units
    (s_one (s_ret (d_and (d_isT (T := "tuple") rfl rfl Z.z_isinstance (pe_ty (T := "tuple") rfl Z.z_tuple (by decide +kernel)) (d_w (d_v (mn rfl) (pv 0)))) (d_and (d_cmp (op_eqP hu) sem_eq (d_w (d_callB call_lenA sem_len (by rfl) Z.z_len PySem.boot_len (w_cons (d_w (d_v (mn rfl) (pv 0))) w_nil))) (d_w d_int) (nomark _)) (d_and (d_call (ok__is_badge Z) (cm.mono (by decide)) rfl Z.n__is_badge Z.F__is_badge.kp Z.b__is_badge (fun σ => passAt (takes_of rfl rfl rfl rfl) σ) (a_cons (d_ix rfl (d_w (d_v (mn rfl) (pv 0))) (d_w d_int) (fun _ _ => rfl)) a_nil)) (d_one (d_call (ok__is_size Z) cm rfl Z.n__is_size Z.F__is_size.kp Z.b__is_size (fun σ => passAt (takes_of rfl rfl rfl rfl) σ) (a_cons (d_ix rfl (d_w (d_v (mn rfl) (pv 0))) (d_w d_int) (fun _ _ => rfl)) a_nil))))))))
end
end My
end
section
set_option Elab.async false
set_option linter.all false
set_option maxRecDepth 100000
set_option maxHeartbeats 4000000
namespace My
open PySem PySem.Spec PyProof.Rows L2 XK EV
noncomputable section
variable {P : Program} {w : World} {K : PySem.W.Frag} {mg : Str → Option Value} {base : Heap}
abbrev N_check_roster : List Str := ["roster", "before", "entry", "item"]
theorem sc_check_roster : FnScope N_check_roster ["roster"] (defScope S_check_roster) := ⟨rfl, rfl, rfl, by decide +kernel, rfl, by decide +kernel, by decide +kernel⟩
def m_check_roster : Sm := (mSeq (mIf ((tSome ((tNo ((tru ((eIsT "tuple" (vr 0))))))) ((tNo ((tst (eChain vLe vLe (kI 1) ((eB vLen (aCons (vr 0) aNil))) (kI 4)))))))) (mRaise "InvalidRoster" "entry" (kN)) mNil)
  (mSeq (mSet 1 (kS ""))
  (mFor (gT 2 (gsCons (gN 2) (gsCons (gN 3) gsNil))) (iEnuT (aCons (vr 0) aNil)) (mSeq (mIf ((tSome ((tNo ((tru ((eCall s__is_entry (aCons (vr 3) aNil))))))) ((tst (eBin vLe ((eBin vIx (vr 3) (kI 0))) (vr 1)))))) (mRaise "InvalidRoster" "entry" (vr 2)) mNil)
  (mSet 1 ((eBin vIx (vr 3) (kI 0))))))))
def s_check_roster : List Val → R := runP (["roster"] : List Str).length (N_check_roster).length m_check_roster
theorem go_check_roster {a0 d : Val} (h : Al (m_check_roster [some a0, none, none, none]) 0 (isRt d) (fun _ _ => False)) : s_check_roster [a0] = .ret d := go_run (ds := [a0]) (np := (["roster"] : List Str).length) (N := (N_check_roster).length) (m := m_check_roster) (e := [some a0, none, none, none]) rfl rfl h
theorem ge_check_roster {a0 : Val} {x : Err} (h : Al (m_check_roster [some a0, none, none, none]) 0 (isEx x) (fun e _ => e = x)) : s_check_roster [a0] = .err x := ge_run (ds := [a0]) (np := (["roster"] : List Str).length) (N := (N_check_roster).length) (m := m_check_roster) (e := [some a0, none, none, none]) rfl rfl h
theorem ok_check_roster (Z : Wd K mg base) : FnG P w K mg base 4 Z.f_check_roster Z.d_check_roster ["roster"] (spP K Z.cl Z.tb s_check_roster) :=
  def_pC (N := N_check_roster) (m := m_check_roster) [] Z.F_check_roster sc_check_roster (by decide) fun cdv A fr s H S E hcd cm =>
    have hu := cm.room.units
    (s_cons (s_if (PW.pt (w_or (t_not (t_tru rfl (d_w (d_isT (T := "tuple") rfl rfl Z.z_isinstance (pe_ty (T := "tuple") rfl Z.z_tuple (by decide +kernel)) (d_w (d_v (mn rfl) (pv 0))))))) (w_or1 (t_not (t_chain op_leA op_leA sem_le sem_le (d_w d_int) (d_w (d_callB call_lenA sem_len (by rfl) Z.z_len PySem.boot_len (w_cons (d_w (d_v (mn rfl) (pv 0))) w_nil))) (d_w (d_gi rfl Z.k_MAX_BADGES)))))))
    (s_one (s_raiseG Z.T_InvalidRoster Z.cl_InvalidRoster (ini_InvalidRoster Z) Z.bi_InvalidRoster (cm.mono (by decide)).room rfl (takes_of rfl rfl rfl rfl) d_non rfl))
    s_nil)
    (s_cons (s_set (i := 1) sc_check_roster.nd rfl (by first | exact Or.inl rfl | exact Or.inr rfl) (mn rfl) (Or.inl rfl) d_str)
    (s_one (s_for (passes_of rfl) rfl (i_enumT rfl rfl Z.z_enumerate (a_cons (d_v (mn rfl) (pv 0)) a_nil)) (g_tup rfl rfl (gs_cons (g_name (vs := [2, 3]) (mi rfl) sc_check_roster.nd rfl (by first | exact Or.inl rfl | exact Or.inr rfl) (mn rfl) (Or.inl rfl)) (gs_cons (g_name (vs := [2, 3]) (mi rfl) sc_check_roster.nd rfl (by first | exact Or.inl rfl | exact Or.inr rfl) (mn rfl) (Or.inl rfl)) gs_nil)))
    (s_cons (s_if (PW.pt (w_or (t_not (t_tru rfl (d_w (d_call (ok__is_entry Z) cm rfl Z.n__is_entry Z.F__is_entry.kp Z.b__is_entry (fun σ => passAt (takes_of rfl rfl rfl rfl) σ) (a_cons (d_v (mn rfl) (pv 3)) a_nil))))) (w_or1 (t_cmp op_leA sem_le (d_w (d_ix rfl (d_w (d_v (mn rfl) (pv 3))) (d_w d_int) (fun _ _ => rfl))) (d_w (d_v (mn rfl) (pv 1))) (nomark _)))))
    (s_one (s_raiseG Z.T_InvalidRoster Z.cl_InvalidRoster (ini_InvalidRoster Z) Z.bi_InvalidRoster (cm.mono (by decide)).room rfl (takes_of rfl rfl rfl rfl) (d_v (mn rfl) (pv 2)) rfl))
    s_nil)
    (s_one (s_set (i := 1) sc_check_roster.nd rfl (by first | exact Or.inl rfl | exact Or.inr rfl) (mn rfl) (Or.inl rfl) (d_ix rfl (d_w (d_v (mn rfl) (pv 3))) (d_w d_int) (fun _ _ => rfl)))))))))
end
end My
end
section
set_option Elab.async false
set_option linter.all false
set_option maxRecDepth 100000
set_option maxHeartbeats 4000000
namespace My
open PySem PySem.Spec PyProof.Rows L2 XK EV
noncomputable section
variable {P : Program} {w : World} {K : PySem.W.Frag} {mg : Str → Option Value} {base : Heap}
abbrev N_badges_of : List Str := ["roster", "item"]
theorem sc_badges_of : FnScope N_badges_of ["roster"] (defScope S_badges_of) := ⟨rfl, rfl, rfl, by decide +kernel, rfl, by decide +kernel, by decide +kernel⟩
def m_badges_of : Sm := (mSeq (mExpr ((eCall s_check_roster (aCons (vr 0) aNil))))
  (mRet ((eJoin "" ((eLc [1] (iOf (vr 0)) (gN 1) (noIf) ((eBin vIx (vr 1) (kI 0)))))))))
def s_badges_of : List Val → R := runP (["roster"] : List Str).length (N_badges_of).length m_badges_of
theorem go_badges_of {a0 d : Val} (h : Al (m_badges_of [some a0, none]) 0 (isRt d) (fun _ _ => False)) : s_badges_of [a0] = .ret d := go_run (ds := [a0]) (np := (["roster"] : List Str).length) (N := (N_badges_of).length) (m := m_badges_of) (e := [some a0, none]) rfl rfl h
theorem ge_badges_of {a0 : Val} {x : Err} (h : Al (m_badges_of [some a0, none]) 0 (isEx x) (fun e _ => e = x)) : s_badges_of [a0] = .err x := ge_run (ds := [a0]) (np := (["roster"] : List Str).length) (N := (N_badges_of).length) (m := m_badges_of) (e := [some a0, none]) rfl rfl h
theorem ok_badges_of (Z : Wd K mg base) : FnG P w K mg base 5 Z.f_badges_of Z.d_badges_of ["roster"] (spP K Z.cl Z.tb s_badges_of) :=
  def_pC (N := N_badges_of) (m := m_badges_of) [] Z.F_badges_of sc_badges_of (by decide) fun cdv A fr s H S E hcd cm =>
    have hu := cm.room.units
    (s_cons (s_expr (d_call (ok_check_roster Z) cm rfl Z.n_check_roster Z.F_check_roster.kp Z.b_check_roster (fun σ => passAt (takes_of rfl rfl rfl rfl) σ) (a_cons (d_v (mn rfl) (pv 0)) a_nil)))
    (s_one (s_ret (d_join rfl pe_str (d_w (d_sh (d_lcN (own := [("item", 1)]) rfl sc_badges_of.nd (i_c (i_of rfl (d_v (mn rfl) (pv 0)))) (blkOk_by (N := N_badges_of) (sc := defScope S_badges_of) (by decide +kernel)) (ma rfl) (Or.inl rfl) (fun _ _ _ _ _ => (g_name (vs := [1]) (mi rfl) sc_badges_of.nd rfl (by first | exact Or.inl rfl | exact Or.inr rfl) (mn rfl) (Or.inl rfl))) (fun _ _ _ _ _ => ts_nil) (fun _ _ _ _ _ => (d_ix rfl (d_w (d_v (mn rfl) (pv 1))) (d_w d_int) (fun _ _ => rfl))))))))))
end
end My
end
section
set_option Elab.async false
set_option linter.all false
set_option maxRecDepth 100000
set_option maxHeartbeats 4000000
namespace My
open PySem PySem.Spec PyProof.Rows L2 XK EV
noncomputable section
variable {P : Program} {w : World} {K : PySem.W.Frag} {mg : Str → Option Value} {base : Heap}
abbrev N_size_of : List Str := ["roster", "badge", "own_badge", "size"]
theorem sc_size_of : FnScope N_size_of ["roster", "badge"] (defScope S_size_of) := ⟨rfl, rfl, rfl, by decide +kernel, rfl, by decide +kernel, by decide +kernel⟩
def m_size_of : Sm := (mSeq (mExpr ((eCall s_check_roster (aCons (vr 0) aNil))))
  (mSeq (mFor (gT 2 (gsCons (gN 2) (gsCons (gN 3) gsNil))) (iOf (vr 0)) (mIf ((tst (eBin eqG (vr 2) (vr 1)))) (mRet (vr 3)) mNil))
  (mRaise "InvalidBadge" "badge" (vr 1))))
def s_size_of : List Val → R := runP (["roster", "badge"] : List Str).length (N_size_of).length m_size_of
theorem go_size_of {a0 a1 d : Val} (h : Al (m_size_of [some a0, some a1, none, none]) 0 (isRt d) (fun _ _ => False)) : s_size_of [a0, a1] = .ret d := go_run (ds := [a0, a1]) (np := (["roster", "badge"] : List Str).length) (N := (N_size_of).length) (m := m_size_of) (e := [some a0, some a1, none, none]) rfl rfl h
theorem ge_size_of {a0 a1 : Val} {x : Err} (h : Al (m_size_of [some a0, some a1, none, none]) 0 (isEx x) (fun e _ => e = x)) : s_size_of [a0, a1] = .err x := ge_run (ds := [a0, a1]) (np := (["roster", "badge"] : List Str).length) (N := (N_size_of).length) (m := m_size_of) (e := [some a0, some a1, none, none]) rfl rfl h
theorem ok_size_of (Z : Wd K mg base) : FnG P w K mg base 5 Z.f_size_of Z.d_size_of ["roster", "badge"] (spP K Z.cl Z.tb s_size_of) :=
  def_pC (N := N_size_of) (m := m_size_of) [] Z.F_size_of sc_size_of (by decide) fun cdv A fr s H S E hcd cm =>
    have hu := cm.room.units
    (s_cons (s_expr (d_call (ok_check_roster Z) cm rfl Z.n_check_roster Z.F_check_roster.kp Z.b_check_roster (fun σ => passAt (takes_of rfl rfl rfl rfl) σ) (a_cons (d_v (mn rfl) (pv 0)) a_nil)))
    (s_cons (s_for (passes_of rfl) rfl (i_of rfl (d_v (mn rfl) (pv 0))) (g_tup rfl rfl (gs_cons (g_name (vs := [2, 3]) (mi rfl) sc_size_of.nd rfl (by first | exact Or.inl rfl | exact Or.inr rfl) (mn rfl) (Or.inl rfl)) (gs_cons (g_name (vs := [2, 3]) (mi rfl) sc_size_of.nd rfl (by first | exact Or.inl rfl | exact Or.inr rfl) (mn rfl) (Or.inl rfl)) gs_nil)))
    (s_one (s_if (t_cmp (op_eqP hu) sem_eq (d_w (d_v (mn rfl) (pv 2))) (d_w (d_v (mn rfl) (pv 1))) (nomark _))
    (s_one (s_ret (d_v (mn rfl) (pv 3))))
    s_nil)))
    (s_one (s_raiseG Z.T_InvalidBadge Z.cl_InvalidBadge (ini_InvalidBadge Z) Z.bi_InvalidBadge (cm.mono (by decide)).room rfl (takes_of rfl rfl rfl rfl) (d_v (mn rfl) (pv 1)) rfl))))
end
end My
end
section
set_option Elab.async false
set_option linter.all false
set_option maxRecDepth 100000
set_option maxHeartbeats 4000000
namespace My
open PySem PySem.Spec PyProof.Rows L2 XK EV
noncomputable section
variable {P : Program} {w : World} {K : PySem.W.Frag} {mg : Str → Option Value} {base : Heap}
abbrev N_check_line : List Str := ["roster", "line", "badges", "place", "person"]
theorem sc_check_line : FnScope N_check_line ["roster", "line"] (defScope S_check_line) := ⟨rfl, rfl, rfl, by decide +kernel, rfl, by decide +kernel, by decide +kernel⟩
def m_check_line : Sm := (mSeq (mSet 2 ((eCall s_badges_of (aCons (vr 0) aNil))))
  (mSeq (mIf ((tSome ((tNo ((tru ((eIsT "str" (vr 1))))))) ((tst (eBin vGt ((eB vLen (aCons (vr 1) aNil))) (kI 12)))))) (mRaise "InvalidPeople" "place" (kN)) mNil)
  (mFor (gT 2 (gsCons (gN 3) (gsCons (gN 4) gsNil))) (iEnuS (aCons (vr 1) aNil)) (mIf ((tst (eBin vNotIn (vr 4) (vr 2)))) (mRaise "InvalidPeople" "place" (vr 3)) mNil))))
def s_check_line : List Val → R := runP (["roster", "line"] : List Str).length (N_check_line).length m_check_line
theorem go_check_line {a0 a1 d : Val} (h : Al (m_check_line [some a0, some a1, none, none, none]) 0 (isRt d) (fun _ _ => False)) : s_check_line [a0, a1] = .ret d := go_run (ds := [a0, a1]) (np := (["roster", "line"] : List Str).length) (N := (N_check_line).length) (m := m_check_line) (e := [some a0, some a1, none, none, none]) rfl rfl h
theorem ge_check_line {a0 a1 : Val} {x : Err} (h : Al (m_check_line [some a0, some a1, none, none, none]) 0 (isEx x) (fun e _ => e = x)) : s_check_line [a0, a1] = .err x := ge_run (ds := [a0, a1]) (np := (["roster", "line"] : List Str).length) (N := (N_check_line).length) (m := m_check_line) (e := [some a0, some a1, none, none, none]) rfl rfl h
theorem ok_check_line (Z : Wd K mg base) : FnG P w K mg base 6 Z.f_check_line Z.d_check_line ["roster", "line"] (spP K Z.cl Z.tb s_check_line) :=
  def_pC (N := N_check_line) (m := m_check_line) [] Z.F_check_line sc_check_line (by decide) fun cdv A fr s H S E hcd cm =>
    have hu := cm.room.units
    (s_cons (s_set (i := 2) sc_check_line.nd rfl (by first | exact Or.inl rfl | exact Or.inr rfl) (mn rfl) (Or.inl rfl) (d_call (ok_badges_of Z) cm rfl Z.n_badges_of Z.F_badges_of.kp Z.b_badges_of (fun σ => passAt (takes_of rfl rfl rfl rfl) σ) (a_cons (d_v (mn rfl) (pv 0)) a_nil)))
    (s_cons (s_if (PW.pt (w_or (t_not (t_tru rfl (d_w (d_isT (T := "str") rfl rfl Z.z_isinstance (pe_ty (T := "str") rfl Z.z_str (by decide +kernel)) (d_w (d_v (mn rfl) (pv 1))))))) (w_or1 (t_cmp op_gtA sem_gt (d_w (d_callB call_lenA sem_len (by rfl) Z.z_len PySem.boot_len (w_cons (d_w (d_v (mn rfl) (pv 1))) w_nil))) (d_w (d_gi rfl Z.k_MAX_PEOPLE)) (nomark _)))))
    (s_one (s_raiseG Z.T_InvalidPeople Z.cl_InvalidPeople (ini_InvalidPeople Z) Z.bi_InvalidPeople (cm.mono (by decide)).room rfl (takes_of rfl rfl rfl rfl) d_non rfl))
    s_nil)
    (s_one (s_for (passes_of rfl) rfl (i_enumS rfl Z.z_enumerate (a_cons (d_v (mn rfl) (pv 1)) a_nil)) (g_tup rfl rfl (gs_cons (g_name (vs := [3, 4]) (mi rfl) sc_check_line.nd rfl (by first | exact Or.inl rfl | exact Or.inr rfl) (mn rfl) (Or.inl rfl)) (gs_cons (g_name (vs := [3, 4]) (mi rfl) sc_check_line.nd rfl (by first | exact Or.inl rfl | exact Or.inr rfl) (mn rfl) (Or.inl rfl)) gs_nil)))
    (s_one (s_if (t_cmp (op_notInP hu) sem_notIn (d_w (d_v (mn rfl) (pv 4))) (d_w (d_v (mn rfl) (pv 2))) (by rfl))
    (s_one (s_raiseG Z.T_InvalidPeople Z.cl_InvalidPeople (ini_InvalidPeople Z) Z.bi_InvalidPeople (cm.mono (by decide)).room rfl (takes_of rfl rfl rfl rfl) (d_v (mn rfl) (pv 3)) rfl))
    s_nil))))))
end
end My
end
section
set_option Elab.async false
set_option linter.all false
set_option maxRecDepth 100000
set_option maxHeartbeats 4000000
namespace My
open PySem PySem.Spec PyProof.Rows L2 XK EV
noncomputable section
variable {P : Program} {w : World} {K : PySem.W.Frag} {mg : Str → Option Value} {base : Heap}
abbrev N_check_ring : List Str := ["roster", "ring"]
theorem sc_check_ring : FnScope N_check_ring ["roster", "ring"] (defScope S_check_ring) := ⟨rfl, rfl, rfl, by decide +kernel, rfl, by decide +kernel, by decide +kernel⟩
def m_check_ring : Sm := (mSeq (mExpr ((eCall s_check_line (aCons (vr 0) (aCons (vr 1) aNil)))))
  (mIf ((tNo ((tru (vr 1))))) (mRaise "InvalidPeople" "place" (kN)) mNil))
def s_check_ring : List Val → R := runP (["roster", "ring"] : List Str).length (N_check_ring).length m_check_ring
theorem go_check_ring {a0 a1 d : Val} (h : Al (m_check_ring [some a0, some a1]) 0 (isRt d) (fun _ _ => False)) : s_check_ring [a0, a1] = .ret d := go_run (ds := [a0, a1]) (np := (["roster", "ring"] : List Str).length) (N := (N_check_ring).length) (m := m_check_ring) (e := [some a0, some a1]) rfl rfl h
theorem ge_check_ring {a0 a1 : Val} {x : Err} (h : Al (m_check_ring [some a0, some a1]) 0 (isEx x) (fun e _ => e = x)) : s_check_ring [a0, a1] = .err x := ge_run (ds := [a0, a1]) (np := (["roster", "ring"] : List Str).length) (N := (N_check_ring).length) (m := m_check_ring) (e := [some a0, some a1]) rfl rfl h
theorem ok_check_ring (Z : Wd K mg base) : FnG P w K mg base 7 Z.f_check_ring Z.d_check_ring ["roster", "ring"] (spP K Z.cl Z.tb s_check_ring) :=
  def_pC (N := N_check_ring) (m := m_check_ring) [] Z.F_check_ring sc_check_ring (by decide) fun cdv A fr s H S E hcd cm =>
    have hu := cm.room.units
    (s_cons (s_expr (d_call (ok_check_line Z) cm rfl Z.n_check_line Z.F_check_line.kp Z.b_check_line (fun σ => passAt (takes_of rfl rfl rfl rfl) σ) (a_cons (d_v (mn rfl) (pv 0)) (a_cons (d_v (mn rfl) (pv 1)) a_nil))))
    (s_one (s_if (t_not (t_tru rfl (d_w (d_v (mn rfl) (pv 1)))))
    (s_one (s_raiseG Z.T_InvalidPeople Z.cl_InvalidPeople (ini_InvalidPeople Z) Z.bi_InvalidPeople (cm.mono (by decide)).room rfl (takes_of rfl rfl rfl rfl) d_non rfl))
    s_nil)))
end
end My
end
section
set_option Elab.async false
set_option linter.all false
set_option maxRecDepth 100000
set_option maxHeartbeats 4000000
namespace My
open PySem PySem.Spec PyProof.Rows L2 XK EV
noncomputable section
variable {P : Program} {w : World} {K : PySem.W.Frag} {mg : Str → Option Value} {base : Heap}
abbrev N_turned : List Str := ["roster", "ring", "by", "first"]
theorem sc_turned : FnScope N_turned ["roster", "ring", "by"] (defScope S_turned) := ⟨rfl, rfl, rfl, by decide +kernel, rfl, by decide +kernel, by decide +kernel⟩
def m_turned : Sm := (mSeq (mExpr ((eCall s_check_ring (aCons (vr 0) (aCons (vr 1) aNil)))))
  (mSeq (mSet 3 ((eBin vMod ((eNeg (vr 2))) ((eB vLen (aCons (vr 1) aNil))))))
  (mRet ((eBin vAdd ((eSl (vr 1) (oSo (vr 3)) oNo)) ((eSl (vr 1) oNo (oSo (vr 3)))))))))
def s_turned : List Val → R := runP (["roster", "ring", "by"] : List Str).length (N_turned).length m_turned
theorem go_turned {a0 a1 a2 d : Val} (h : Al (m_turned [some a0, some a1, some a2, none]) 0 (isRt d) (fun _ _ => False)) : s_turned [a0, a1, a2] = .ret d := go_run (ds := [a0, a1, a2]) (np := (["roster", "ring", "by"] : List Str).length) (N := (N_turned).length) (m := m_turned) (e := [some a0, some a1, some a2, none]) rfl rfl h
theorem ge_turned {a0 a1 a2 : Val} {x : Err} (h : Al (m_turned [some a0, some a1, some a2, none]) 0 (isEx x) (fun e _ => e = x)) : s_turned [a0, a1, a2] = .err x := ge_run (ds := [a0, a1, a2]) (np := (["roster", "ring", "by"] : List Str).length) (N := (N_turned).length) (m := m_turned) (e := [some a0, some a1, some a2, none]) rfl rfl h
theorem ok_turned (Z : Wd K mg base) : FnG P w K mg base 8 Z.f_turned Z.d_turned ["roster", "ring", "by"] (spP K Z.cl Z.tb s_turned) :=
  def_pC (N := N_turned) (m := m_turned) [] Z.F_turned sc_turned (by decide) fun cdv A fr s H S E hcd cm =>
    have hu := cm.room.units
    (s_cons (s_expr (d_call (ok_check_ring Z) cm rfl Z.n_check_ring Z.F_check_ring.kp Z.b_check_ring (fun σ => passAt (takes_of rfl rfl rfl rfl) σ) (a_cons (d_v (mn rfl) (pv 0)) (a_cons (d_v (mn rfl) (pv 1)) a_nil))))
    (s_cons (s_set (i := 3) sc_turned.nd rfl (by first | exact Or.inl rfl | exact Or.inr rfl) (mn rfl) (Or.inl rfl) (d_mod (d_w (d_neg (d_v (mn rfl) (pv 2)))) (d_w (d_callB call_lenA sem_len (by rfl) Z.z_len PySem.boot_len (w_cons (d_w (d_v (mn rfl) (pv 1))) w_nil)))))
    (s_one (s_ret (d_add rfl (d_w (d_sl rfl (d_w (d_v (mn rfl) (pv 1))) (o_so (d_w (d_v (mn rfl) (pv 3)))) o_no)) (d_w (d_sl rfl (d_w (d_v (mn rfl) (pv 1))) o_no (o_so (d_w (d_v (mn rfl) (pv 3)))))))))))
end
end My
end
section
set_option Elab.async false
set_option linter.all false
set_option maxRecDepth 100000
set_option maxHeartbeats 4000000
namespace My
open PySem PySem.Spec PyProof.Rows L2 XK EV
noncomputable section
variable {P : Program} {w : World} {K : PySem.W.Frag} {mg : Str → Option Value} {base : Heap}
abbrev N__is_place : List Str := ["thing"]
theorem sc__is_place : FnScope N__is_place ["thing"] (defScope S__is_place) := ⟨rfl, rfl, rfl, by decide +kernel, rfl, by decide +kernel, by decide +kernel⟩
def m__is_place : Sm := (mRet ((eAnd ((eCall s_is_int (aCons (vr 0) aNil))) ((eChain vLe vLt (kI 0) (vr 0) (kI 12))))))
def s__is_place : List Val → R := runP (["thing"] : List Str).length (N__is_place).length m__is_place
theorem go__is_place {a0 d : Val} (h : Al (m__is_place [some a0]) 0 (isRt d) (fun _ _ => False)) : s__is_place [a0] = .ret d := go_run (ds := [a0]) (np := (["thing"] : List Str).length) (N := (N__is_place).length) (m := m__is_place) (e := [some a0]) rfl rfl h
theorem ge__is_place {a0 : Val} {x : Err} (h : Al (m__is_place [some a0]) 0 (isEx x) (fun e _ => e = x)) : s__is_place [a0] = .err x := ge_run (ds := [a0]) (np := (["thing"] : List Str).length) (N := (N__is_place).length) (m := m__is_place) (e := [some a0]) rfl rfl h
theorem ok__is_place (Z : Wd K mg base) : FnG P w K mg base 2 Z.f__is_place Z.d__is_place ["thing"] (spP K Z.cl Z.tb s__is_place) :=
  def_pC (N := N__is_place) (m := m__is_place) [] Z.F__is_place sc__is_place (by decide) fun cdv A fr s H S E hcd cm =>
    have hu := cm.room.units
    (s_one (s_ret (d_and (d_call (ok_is_int Z) cm rfl Z.n_is_int Z.F_is_int.kp Z.b_is_int (fun σ => passAt (takes_of rfl rfl rfl rfl) σ) (a_cons (d_v (mn rfl) (pv 0)) a_nil)) (d_one (d_chain op_leA op_ltA sem_le sem_lt (d_w d_int) (d_w (d_v (mn rfl) (pv 0))) (d_w (d_gi rfl Z.k_MAX_PEOPLE)))))))
end
end My
end
section
set_option Elab.async false
set_option linter.all false
set_option maxRecDepth 100000
set_option maxHeartbeats 4000000
namespace My
open PySem PySem.Spec PyProof.Rows L2 XK EV
noncomputable section
variable {P : Program} {w : World} {K : PySem.W.Frag} {mg : Str → Option Value} {base : Heap}
abbrev N__is_side : List Str := ["thing"]
theorem sc__is_side : FnScope N__is_side ["thing"] (defScope S__is_side) := ⟨rfl, rfl, rfl, by decide +kernel, rfl, by decide +kernel, by decide +kernel⟩
def m__is_side : Sm := (mRet ((eAnd ((eCall s_is_int (aCons (vr 0) aNil))) ((eBin vIn (vr 0) ((eTup (aCons (kI 1) (aCons ((eNeg (kI 1))) aNil)))))))))
def s__is_side : List Val → R := runP (["thing"] : List Str).length (N__is_side).length m__is_side
theorem go__is_side {a0 d : Val} (h : Al (m__is_side [some a0]) 0 (isRt d) (fun _ _ => False)) : s__is_side [a0] = .ret d := go_run (ds := [a0]) (np := (["thing"] : List Str).length) (N := (N__is_side).length) (m := m__is_side) (e := [some a0]) rfl rfl h
theorem ge__is_side {a0 : Val} {x : Err} (h : Al (m__is_side [some a0]) 0 (isEx x) (fun e _ => e = x)) : s__is_side [a0] = .err x := ge_run (ds := [a0]) (np := (["thing"] : List Str).length) (N := (N__is_side).length) (m := m__is_side) (e := [some a0]) rfl rfl h
theorem ok__is_side (Z : Wd K mg base) : FnG P w K mg base 2 Z.f__is_side Z.d__is_side ["thing"] (spP K Z.cl Z.tb s__is_side) :=
  def_pC (N := N__is_side) (m := m__is_side) [] Z.F__is_side sc__is_side (by decide) fun cdv A fr s H S E hcd cm =>
    have hu := cm.room.units
    (s_one (s_ret (d_and (d_call (ok_is_int Z) cm rfl Z.n_is_int Z.F_is_int.kp Z.b_is_int (fun σ => passAt (takes_of rfl rfl rfl rfl) σ) (a_cons (d_v (mn rfl) (pv 0)) a_nil)) (d_one (d_cmp (op_inP hu) sem_in (d_w (d_v (mn rfl) (pv 0))) (d_w (d_tup (a_cons d_int (a_cons (d_neg d_int) a_nil)))) (by rfl))))))
end
end My
end
section
set_option Elab.async false
set_option linter.all false
set_option maxRecDepth 100000
set_option maxHeartbeats 4000000
namespace My
open PySem PySem.Spec PyProof.Rows L2 XK EV
noncomputable section
variable {P : Program} {w : World} {K : PySem.W.Frag} {mg : Str → Option Value} {base : Heap}
abbrev N__is_step : List Str := ["thing"]
theorem sc__is_step : FnScope N__is_step ["thing"] (defScope S__is_step) := ⟨rfl, rfl, rfl, by decide +kernel, rfl, by decide +kernel, by decide +kernel⟩
def m__is_step : Sm := (mRet ((eAnd ((eIsT "tuple" (vr 0))) ((eAnd ((eBin eqG ((eB vLen (aCons (vr 0) aNil))) (kI 2))) ((eAnd ((eCall s__is_place (aCons ((eBin vIx (vr 0) (kI 0))) aNil))) ((eCall s__is_side (aCons ((eBin vIx (vr 0) (kI 1))) aNil))))))))))
def s__is_step : List Val → R := runP (["thing"] : List Str).length (N__is_step).length m__is_step
theorem go__is_step {a0 d : Val} (h : Al (m__is_step [some a0]) 0 (isRt d) (fun _ _ => False)) : s__is_step [a0] = .ret d := go_run (ds := [a0]) (np := (["thing"] : List Str).length) (N := (N__is_step).length) (m := m__is_step) (e := [some a0]) rfl rfl h
theorem ge__is_step {a0 : Val} {x : Err} (h : Al (m__is_step [some a0]) 0 (isEx x) (fun e _ => e = x)) : s__is_step [a0] = .err x := ge_run (ds := [a0]) (np := (["thing"] : List Str).length) (N := (N__is_step).length) (m := m__is_step) (e := [some a0]) rfl rfl h
theorem ok__is_step (Z : Wd K mg base) : FnG P w K mg base 3 Z.f__is_step Z.d__is_step ["thing"] (spP K Z.cl Z.tb s__is_step) :=
  def_pC (N := N__is_step) (m := m__is_step) [] Z.F__is_step sc__is_step (by decide) fun cdv A fr s H S E hcd cm =>
    have hu := cm.room.units
    (s_one (s_ret (d_and (d_isT (T := "tuple") rfl rfl Z.z_isinstance (pe_ty (T := "tuple") rfl Z.z_tuple (by decide +kernel)) (d_w (d_v (mn rfl) (pv 0)))) (d_and (d_cmp (op_eqP hu) sem_eq (d_w (d_callB call_lenA sem_len (by rfl) Z.z_len PySem.boot_len (w_cons (d_w (d_v (mn rfl) (pv 0))) w_nil))) (d_w d_int) (nomark _)) (d_and (d_call (ok__is_place Z) cm rfl Z.n__is_place Z.F__is_place.kp Z.b__is_place (fun σ => passAt (takes_of rfl rfl rfl rfl) σ) (a_cons (d_ix rfl (d_w (d_v (mn rfl) (pv 0))) (d_w d_int) (fun _ _ => rfl)) a_nil)) (d_one (d_call (ok__is_side Z) cm rfl Z.n__is_side Z.F__is_side.kp Z.b__is_side (fun σ => passAt (takes_of rfl rfl rfl rfl) σ) (a_cons (d_ix rfl (d_w (d_v (mn rfl) (pv 0))) (d_w d_int) (fun _ _ => rfl)) a_nil))))))))
end
end My
end
section
set_option Elab.async false
set_option linter.all false
set_option maxRecDepth 100000
set_option maxHeartbeats 4000000
namespace My
open PySem PySem.Spec PyProof.Rows L2 XK EV
noncomputable section
variable {P : Program} {w : World} {K : PySem.W.Frag} {mg : Str → Option Value} {base : Heap}
abbrev N_check_walk : List Str := ["walk", "index", "item"]
theorem sc_check_walk : FnScope N_check_walk ["walk"] (defScope S_check_walk) := ⟨rfl, rfl, rfl, by decide +kernel, rfl, by decide +kernel, by decide +kernel⟩
def m_check_walk : Sm := (mSeq (mIf ((tSome ((tNo ((tru ((eIsT "tuple" (vr 0))))))) ((tst (eBin vGt ((eB vLen (aCons (vr 0) aNil))) (kI 1000)))))) (mRaise "InvalidWalk" "index" (kN)) mNil)
  (mFor (gT 2 (gsCons (gN 1) (gsCons (gN 2) gsNil))) (iEnuT (aCons (vr 0) aNil)) (mIf ((tNo ((tru ((eCall s__is_step (aCons (vr 2) aNil))))))) (mRaise "InvalidWalk" "index" (vr 1)) mNil)))
def s_check_walk : List Val → R := runP (["walk"] : List Str).length (N_check_walk).length m_check_walk
theorem go_check_walk {a0 d : Val} (h : Al (m_check_walk [some a0, none, none]) 0 (isRt d) (fun _ _ => False)) : s_check_walk [a0] = .ret d := go_run (ds := [a0]) (np := (["walk"] : List Str).length) (N := (N_check_walk).length) (m := m_check_walk) (e := [some a0, none, none]) rfl rfl h
theorem ge_check_walk {a0 : Val} {x : Err} (h : Al (m_check_walk [some a0, none, none]) 0 (isEx x) (fun e _ => e = x)) : s_check_walk [a0] = .err x := ge_run (ds := [a0]) (np := (["walk"] : List Str).length) (N := (N_check_walk).length) (m := m_check_walk) (e := [some a0, none, none]) rfl rfl h
theorem ok_check_walk (Z : Wd K mg base) : FnG P w K mg base 4 Z.f_check_walk Z.d_check_walk ["walk"] (spP K Z.cl Z.tb s_check_walk) :=
  def_pC (N := N_check_walk) (m := m_check_walk) [] Z.F_check_walk sc_check_walk (by decide) fun cdv A fr s H S E hcd cm =>
    have hu := cm.room.units
    (s_cons (s_if (PW.pt (w_or (t_not (t_tru rfl (d_w (d_isT (T := "tuple") rfl rfl Z.z_isinstance (pe_ty (T := "tuple") rfl Z.z_tuple (by decide +kernel)) (d_w (d_v (mn rfl) (pv 0))))))) (w_or1 (t_cmp op_gtA sem_gt (d_w (d_callB call_lenA sem_len (by rfl) Z.z_len PySem.boot_len (w_cons (d_w (d_v (mn rfl) (pv 0))) w_nil))) (d_w (d_gi rfl Z.k_MAX_WALK)) (nomark _)))))
    (s_one (s_raiseG Z.T_InvalidWalk Z.cl_InvalidWalk (ini_InvalidWalk Z) Z.bi_InvalidWalk (cm.mono (by decide)).room rfl (takes_of rfl rfl rfl rfl) d_non rfl))
    s_nil)
    (s_one (s_for (passes_of rfl) rfl (i_enumT rfl rfl Z.z_enumerate (a_cons (d_v (mn rfl) (pv 0)) a_nil)) (g_tup rfl rfl (gs_cons (g_name (vs := [1, 2]) (mi rfl) sc_check_walk.nd rfl (by first | exact Or.inl rfl | exact Or.inr rfl) (mn rfl) (Or.inl rfl)) (gs_cons (g_name (vs := [1, 2]) (mi rfl) sc_check_walk.nd rfl (by first | exact Or.inl rfl | exact Or.inr rfl) (mn rfl) (Or.inl rfl)) gs_nil)))
    (s_one (s_if (t_not (t_tru rfl (d_w (d_call (ok__is_step Z) cm rfl Z.n__is_step Z.F__is_step.kp Z.b__is_step (fun σ => passAt (takes_of rfl rfl rfl rfl) σ) (a_cons (d_v (mn rfl) (pv 2)) a_nil)))))
    (s_one (s_raiseG Z.T_InvalidWalk Z.cl_InvalidWalk (ini_InvalidWalk Z) Z.bi_InvalidWalk (cm.mono (by decide)).room rfl (takes_of rfl rfl rfl rfl) (d_v (mn rfl) (pv 1)) rfl))
    s_nil)))))
end
end My
end
section
set_option Elab.async false
set_option linter.all false
set_option maxRecDepth 100000
set_option maxHeartbeats 4000000
namespace My
open PySem PySem.Spec PyProof.Rows L2 XK EV
noncomputable section
variable {P : Program} {w : World} {K : PySem.W.Frag} {mg : Str → Option Value} {base : Heap}
abbrev N_steps_to_try : List Str := ["roster", "people", "badge", "places", "place", "person", "side"]
theorem sc_steps_to_try : FnScope N_steps_to_try ["roster", "people", "badge"] (defScope S_steps_to_try) := ⟨rfl, rfl, rfl, by decide +kernel, rfl, by decide +kernel, by decide +kernel⟩
def m_steps_to_try : Sm := (mSeq (mIf ((tst (eBin vIsNot (vr 2) (kN)))) (mExpr ((eCall s_size_of (aCons (vr 0) (aCons (vr 2) aNil))))) mNil)
  (mSeq (mSet 3 (eLc [4, 5] (iEnuS (aCons (vr 1) aNil)) (gT 2 (gsCons (gN 4) (gsCons (gN 5) gsNil))) ((tSome ((tst (eBin vIs (vr 2) (kN)))) ((tst (eBin eqG (vr 5) (vr 2)))))) (vr 4)))
  (mRet ((eLc2 [4, 6] [6] (iOf (vr 3)) (gN 4) (noIf) (iOf ((eTup (aCons ((eNeg (kI 1))) (aCons (kI 1) aNil))))) (gN 6) (noIf) ((eTup (aCons (vr 4) (aCons (vr 6) aNil)))))))))
def s_steps_to_try : List Val → R := runP (["roster", "people", "badge"] : List Str).length (N_steps_to_try).length m_steps_to_try
theorem go_steps_to_try {a0 a1 a2 d : Val} (h : Al (m_steps_to_try [some a0, some a1, some a2, none, none, none, none]) 0 (isRt d) (fun _ _ => False)) : s_steps_to_try [a0, a1, a2] = .ret d := go_run (ds := [a0, a1, a2]) (np := (["roster", "people", "badge"] : List Str).length) (N := (N_steps_to_try).length) (m := m_steps_to_try) (e := [some a0, some a1, some a2, none, none, none, none]) rfl rfl h
theorem ge_steps_to_try {a0 a1 a2 : Val} {x : Err} (h : Al (m_steps_to_try [some a0, some a1, some a2, none, none, none, none]) 0 (isEx x) (fun e _ => e = x)) : s_steps_to_try [a0, a1, a2] = .err x := ge_run (ds := [a0, a1, a2]) (np := (["roster", "people", "badge"] : List Str).length) (N := (N_steps_to_try).length) (m := m_steps_to_try) (e := [some a0, some a1, some a2, none, none, none, none]) rfl rfl h
theorem ok_steps_to_try (Z : Wd K mg base) : FnG P w K mg base 6 Z.f_steps_to_try Z.d_steps_to_try ["roster", "people", "badge"] (spP K Z.cl Z.tb s_steps_to_try) :=
  def_pC (N := N_steps_to_try) (m := m_steps_to_try) [] Z.F_steps_to_try sc_steps_to_try (by decide) fun cdv A fr s H S E hcd cm =>
    have hu := cm.room.units
    (s_cons (s_if (t_cmp op_isNotA sem_isNot (d_w (d_v (mn rfl) (pv 2))) (d_w d_non) (nomark _))
    (s_one (s_expr (d_call (ok_size_of Z) cm rfl Z.n_size_of Z.F_size_of.kp Z.b_size_of (fun σ => passAt (takes_of rfl rfl rfl rfl) σ) (a_cons (d_v (mn rfl) (pv 0)) (a_cons (d_v (mn rfl) (pv 2)) a_nil)))))
    s_nil)
    (s_cons (s_setLc (own := [("place", 4), ("person", 5)]) (mn rfl) (Or.inl rfl) rfl sc_steps_to_try.nd rfl rfl (sw_true rfl rfl rfl (by decide +kernel)) (i_c (i_enumS rfl Z.z_enumerate (a_cons (d_v (mn rfl) (pv 1)) a_nil))) (blkOk_by (N := N_steps_to_try) (sc := defScope S_steps_to_try) (by decide +kernel)) (ma rfl) (Or.inl rfl) (fun _ _ _ _ _ => (g_tup rfl rfl (gs_cons (g_name (vs := [4, 5]) (mi rfl) sc_steps_to_try.nd rfl (by first | exact Or.inl rfl | exact Or.inr rfl) (mn rfl) (Or.inl rfl)) (gs_cons (g_name (vs := [4, 5]) (mi rfl) sc_steps_to_try.nd rfl (by first | exact Or.inl rfl | exact Or.inr rfl) (mn rfl) (Or.inl rfl)) gs_nil)))) (fun _ _ _ _ _ => (ts_one (PW.pt (w_or (t_cmp op_isA sem_is (d_w (d_v (mn rfl) (pv 2))) (d_w d_non) (nomark _)) (w_or1 (t_cmp (op_eqP hu) sem_eq (d_w (d_v (mn rfl) (pv 5))) (d_w (d_v (mn rfl) (pv 2))) (nomark _))))))) (fun _ _ _ _ _ => (d_v (mn rfl) (pv 4))))
    (s_one (s_ret (d_sh (d_lc2N (own := [("place", 4), ("side", 6)]) (vs1 := [6]) rfl sc_steps_to_try.nd (i_c (i_of rfl (d_v (mn rfl) (pv 3)))) (blkOk_by (N := N_steps_to_try) (sc := defScope S_steps_to_try) (by decide +kernel)) (by decide) (ma rfl) (Or.inl rfl) (fun _ _ _ _ _ => (g_name (vs := [4, 6]) (mi rfl) sc_steps_to_try.nd rfl (by first | exact Or.inl rfl | exact Or.inr rfl) (mn rfl) (Or.inl rfl))) (fun _ _ _ _ _ => ts_nil) (fun _ _ _ _ _ => (i_of rfl (d_tup (a_cons (d_neg d_int) (a_cons d_int a_nil))))) (fun _ _ _ _ _ => (g_name (vs := [6]) (mi rfl) sc_steps_to_try.nd rfl (by first | exact Or.inl rfl | exact Or.inr rfl) (mn rfl) (Or.inl rfl))) (fun _ _ _ _ _ => ts_nil) (fun _ _ _ _ _ => (d_tup (a_cons (d_v (mn rfl) (pv 4)) (a_cons (d_v (mn rfl) (pv 6)) a_nil))))))))))
end
end My
end
section
set_option Elab.async false
set_option linter.all false
set_option maxRecDepth 100000
set_option maxHeartbeats 4000000
namespace My
open PySem PySem.Spec PyProof.Rows L2 XK EV
noncomputable section
variable {P : Program} {w : World} {K : PySem.W.Frag} {mg : Str → Option Value} {base : Heap}
abbrev N_is_crew_at : List Str := ["sizes", "line", "place", "badge", "size"]
theorem sc_is_crew_at : FnScope N_is_crew_at ["sizes", "line", "place"] (defScope S_is_crew_at) := ⟨rfl, rfl, rfl, by decide +kernel, rfl, by decide +kernel, by decide +kernel⟩
def m_is_crew_at : Sm := (mSeq (mSet 3 ((eBin vIx (vr 1) (vr 2))))
  (mSeq (mSet 4 ((eBin vGet (vr 0) (vr 3))))
  (mRet ((eAnd ((eBin vGt (vr 4) (kI 0))) ((eBin eqG ((eSl (vr 1) (oSo (vr 2)) (oSo ((eBin vAdd (vr 2) (vr 4)))))) ((eBin vMulA (vr 3) (vr 4))))))))))
def s_is_crew_at : List Val → R := runP (["sizes", "line", "place"] : List Str).length (N_is_crew_at).length m_is_crew_at
theorem go_is_crew_at {a0 a1 a2 d : Val} (h : Al (m_is_crew_at [some a0, some a1, some a2, none, none]) 0 (isRt d) (fun _ _ => False)) : s_is_crew_at [a0, a1, a2] = .ret d := go_run (ds := [a0, a1, a2]) (np := (["sizes", "line", "place"] : List Str).length) (N := (N_is_crew_at).length) (m := m_is_crew_at) (e := [some a0, some a1, some a2, none, none]) rfl rfl h
theorem ge_is_crew_at {a0 a1 a2 : Val} {x : Err} (h : Al (m_is_crew_at [some a0, some a1, some a2, none, none]) 0 (isEx x) (fun e _ => e = x)) : s_is_crew_at [a0, a1, a2] = .err x := ge_run (ds := [a0, a1, a2]) (np := (["sizes", "line", "place"] : List Str).length) (N := (N_is_crew_at).length) (m := m_is_crew_at) (e := [some a0, some a1, some a2, none, none]) rfl rfl h
theorem ok_is_crew_at (Z : Wd K mg base) : FnG P w K mg base 1 Z.f_is_crew_at Z.d_is_crew_at ["sizes", "line", "place"] (spP K Z.cl Z.tb s_is_crew_at) :=
  def_pC (N := N_is_crew_at) (m := m_is_crew_at) [] Z.F_is_crew_at sc_is_crew_at (by decide) fun cdv A fr s H S E hcd cm =>
    have hu := cm.room.units
    (s_cons (s_set (i := 3) sc_is_crew_at.nd rfl (by first | exact Or.inl rfl | exact Or.inr rfl) (mn rfl) (Or.inl rfl) (d_ix rfl (d_w (d_v (mn rfl) (pv 1))) (d_w (d_v (mn rfl) (pv 2))) (fun _ _ => rfl)))
    (s_cons (s_set (i := 4) sc_is_crew_at.nd rfl (by first | exact Or.inl rfl | exact Or.inr rfl) (mn rfl) (Or.inl rfl) (d_get (hu_of cm.room) (d_w (d_v (mn rfl) (pv 0))) (d_w (d_v (mn rfl) (pv 3))) (fun _ _ => rfl)))
    (s_one (s_ret (d_and (d_cmp op_gtA sem_gt (d_w (d_v (mn rfl) (pv 4))) (d_w d_int) (nomark _)) (d_one (d_cmp (op_eqP hu) sem_eq (d_w (d_sl rfl (d_w (d_v (mn rfl) (pv 1))) (o_so (d_w (d_v (mn rfl) (pv 2)))) (o_so (d_w (d_add rfl (d_w (d_v (mn rfl) (pv 2))) (d_w (d_v (mn rfl) (pv 4)))))))) (d_w (d_mul (d_w (d_v (mn rfl) (pv 3))) (d_w (d_v (mn rfl) (pv 4))))) (nomark _))))))))
end
end My
end
section
set_option Elab.async false
set_option linter.all false
set_option maxRecDepth 100000
set_option maxHeartbeats 4000000
namespace My
open PySem PySem.Spec PyProof.Rows L2 XK EV
noncomputable section
variable {P : Program} {w : World} {K : PySem.W.Frag} {mg : Str → Option Value} {base : Heap}
abbrev N_is_possible : List Str := ["sizes", "line", "step", "place", "side", "beside"]
theorem sc_is_possible : FnScope N_is_possible ["sizes", "line", "step"] (defScope S_is_possible) := ⟨rfl, rfl, rfl, by decide +kernel, rfl, by decide +kernel, by decide +kernel⟩
def m_is_possible : Sm := (mSeq (mAsg (gT 2 (gsCons (gN 3) (gsCons (gN 4) gsNil))) (vr 2))
  (mSeq (mIf ((tSome ((tst (eBin vGe (vr 3) ((eB vLen (aCons (vr 1) aNil)))))) ((tNo ((tru ((eCall s_is_crew_at (aCons (vr 0) (aCons (vr 1) (aCons (vr 3) aNil))))))))))) (mRet (kB false)) mNil)
  (mSeq (mSet 5 ((eIf ((tst (eBin eqG (vr 4) ((eNeg (kI 1)))))) ((eBin vSub (vr 3) (kI 1))) ((eBin vAdd (vr 3) ((eBin vGet (vr 0) ((eBin vIx (vr 1) (vr 3))))))))))
  (mRet ((eAnd ((eChain vLe vLt (kI 0) (vr 5) ((eB vLen (aCons (vr 1) aNil))))) ((eBin neG ((eBin vIx (vr 1) (vr 5))) ((eBin vIx (vr 1) (vr 3)))))))))))
def s_is_possible : List Val → R := runP (["sizes", "line", "step"] : List Str).length (N_is_possible).length m_is_possible
theorem go_is_possible {a0 a1 a2 d : Val} (h : Al (m_is_possible [some a0, some a1, some a2, none, none, none]) 0 (isRt d) (fun _ _ => False)) : s_is_possible [a0, a1, a2] = .ret d := go_run (ds := [a0, a1, a2]) (np := (["sizes", "line", "step"] : List Str).length) (N := (N_is_possible).length) (m := m_is_possible) (e := [some a0, some a1, some a2, none, none, none]) rfl rfl h
theorem ge_is_possible {a0 a1 a2 : Val} {x : Err} (h : Al (m_is_possible [some a0, some a1, some a2, none, none, none]) 0 (isEx x) (fun e _ => e = x)) : s_is_possible [a0, a1, a2] = .err x := ge_run (ds := [a0, a1, a2]) (np := (["sizes", "line", "step"] : List Str).length) (N := (N_is_possible).length) (m := m_is_possible) (e := [some a0, some a1, some a2, none, none, none]) rfl rfl h
theorem ok_is_possible (Z : Wd K mg base) : FnG P w K mg base 2 Z.f_is_possible Z.d_is_possible ["sizes", "line", "step"] (spP K Z.cl Z.tb s_is_possible) :=
  def_pC (N := N_is_possible) (m := m_is_possible) [] Z.F_is_possible sc_is_possible (by decide) fun cdv A fr s H S E hcd cm =>
    have hu := cm.room.units
    (s_cons (s_asg (d_v (mn rfl) (pv 2)) (g_tup rfl rfl (gs_cons (g_name (vs := [3, 4]) (mi rfl) sc_is_possible.nd rfl (by first | exact Or.inl rfl | exact Or.inr rfl) (mn rfl) (Or.inl rfl)) (gs_cons (g_name (vs := [3, 4]) (mi rfl) sc_is_possible.nd rfl (by first | exact Or.inl rfl | exact Or.inr rfl) (mn rfl) (Or.inl rfl)) gs_nil))))
    (s_cons (s_if (PW.pt (w_or (t_cmp op_geA sem_ge (d_w (d_v (mn rfl) (pv 3))) (d_w (d_callB call_lenA sem_len (by rfl) Z.z_len PySem.boot_len (w_cons (d_w (d_v (mn rfl) (pv 1))) w_nil))) (nomark _)) (w_or1 (t_not (t_tru rfl (d_w (d_call (ok_is_crew_at Z) cm rfl Z.n_is_crew_at Z.F_is_crew_at.kp Z.b_is_crew_at (fun σ => passAt (takes_of rfl rfl rfl rfl) σ) (a_cons (d_v (mn rfl) (pv 0)) (a_cons (d_v (mn rfl) (pv 1)) (a_cons (d_v (mn rfl) (pv 3)) a_nil))))))))))
    (s_one (s_ret d_bl))
    s_nil)
    (s_cons (s_set (i := 5) sc_is_possible.nd rfl (by first | exact Or.inl rfl | exact Or.inr rfl) (mn rfl) (Or.inl rfl) (d_if (t_cmp (op_eqP hu) sem_eq (d_w (d_v (mn rfl) (pv 4))) (d_w (d_neg d_int)) (nomark _)) (d_sub (d_w (d_v (mn rfl) (pv 3))) (d_w d_int)) (d_add rfl (d_w (d_v (mn rfl) (pv 3))) (d_w (d_get (hu_of cm.room) (d_w (d_v (mn rfl) (pv 0))) (d_w (d_ix rfl (d_w (d_v (mn rfl) (pv 1))) (d_w (d_v (mn rfl) (pv 3))) (fun _ _ => rfl))) (fun _ _ => rfl))))))
    (s_one (s_ret (d_and (d_chain op_leA op_ltA sem_le sem_lt (d_w d_int) (d_w (d_v (mn rfl) (pv 5))) (d_w (d_callB call_lenA sem_len (by rfl) Z.z_len PySem.boot_len (w_cons (d_w (d_v (mn rfl) (pv 1))) w_nil)))) (d_one (d_cmp (op_neP hu) sem_ne (d_w (d_ix rfl (d_w (d_v (mn rfl) (pv 1))) (d_w (d_v (mn rfl) (pv 5))) (fun _ _ => rfl))) (d_w (d_ix rfl (d_w (d_v (mn rfl) (pv 1))) (d_w (d_v (mn rfl) (pv 3))) (fun _ _ => rfl))) (nomark _)))))))))
end
end My
end
section
set_option Elab.async false
set_option linter.all false
set_option maxRecDepth 100000
set_option maxHeartbeats 4000000
namespace My
open PySem PySem.Spec PyProof.Rows L2 XK EV
noncomputable section
variable {P : Program} {w : World} {K : PySem.W.Frag} {mg : Str → Option Value} {base : Heap}
abbrev N_after_step : List Str := ["sizes", "line", "step", "place", "side", "end", "crew"]
theorem sc_after_step : FnScope N_after_step ["sizes", "line", "step"] (defScope S_after_step) := ⟨rfl, rfl, rfl, by decide +kernel, rfl, by decide +kernel, by decide +kernel⟩
def m_after_step : Sm := (mSeq (mAsg (gT 2 (gsCons (gN 3) (gsCons (gN 4) gsNil))) (vr 2))
  (mSeq (mSet 5 ((eBin vAdd (vr 3) ((eBin vGet (vr 0) ((eBin vIx (vr 1) (vr 3))))))))
  (mSeq (mSet 6 ((eSl (vr 1) (oSo (vr 3)) (oSo (vr 5)))))
  (mSeq (mIf ((tst (eBin eqG (vr 4) (kI 1)))) (mRet ((eBin vAdd ((eBin vAdd ((eBin vAdd ((eSl (vr 1) oNo (oSo (vr 3)))) ((eBin vIx (vr 1) (vr 5))))) (vr 6))) ((eSl (vr 1) (oSo ((eBin vAdd (vr 5) (kI 1)))) oNo))))) mNil)
  (mRet ((eBin vAdd ((eBin vAdd ((eBin vAdd ((eSl (vr 1) oNo (oSo ((eBin vSub (vr 3) (kI 1)))))) (vr 6))) ((eBin vIx (vr 1) ((eBin vSub (vr 3) (kI 1))))))) ((eSl (vr 1) (oSo (vr 5)) oNo)))))))))
def s_after_step : List Val → R := runP (["sizes", "line", "step"] : List Str).length (N_after_step).length m_after_step
theorem go_after_step {a0 a1 a2 d : Val} (h : Al (m_after_step [some a0, some a1, some a2, none, none, none, none]) 0 (isRt d) (fun _ _ => False)) : s_after_step [a0, a1, a2] = .ret d := go_run (ds := [a0, a1, a2]) (np := (["sizes", "line", "step"] : List Str).length) (N := (N_after_step).length) (m := m_after_step) (e := [some a0, some a1, some a2, none, none, none, none]) rfl rfl h
theorem ge_after_step {a0 a1 a2 : Val} {x : Err} (h : Al (m_after_step [some a0, some a1, some a2, none, none, none, none]) 0 (isEx x) (fun e _ => e = x)) : s_after_step [a0, a1, a2] = .err x := ge_run (ds := [a0, a1, a2]) (np := (["sizes", "line", "step"] : List Str).length) (N := (N_after_step).length) (m := m_after_step) (e := [some a0, some a1, some a2, none, none, none, none]) rfl rfl h
theorem ok_after_step (Z : Wd K mg base) : FnG P w K mg base 1 Z.f_after_step Z.d_after_step ["sizes", "line", "step"] (spP K Z.cl Z.tb s_after_step) :=
  def_pC (N := N_after_step) (m := m_after_step) [] Z.F_after_step sc_after_step (by decide) fun cdv A fr s H S E hcd cm =>
    have hu := cm.room.units
    (s_cons (s_asg (d_v (mn rfl) (pv 2)) (g_tup rfl rfl (gs_cons (g_name (vs := [3, 4]) (mi rfl) sc_after_step.nd rfl (by first | exact Or.inl rfl | exact Or.inr rfl) (mn rfl) (Or.inl rfl)) (gs_cons (g_name (vs := [3, 4]) (mi rfl) sc_after_step.nd rfl (by first | exact Or.inl rfl | exact Or.inr rfl) (mn rfl) (Or.inl rfl)) gs_nil))))
    (s_cons (s_set (i := 5) sc_after_step.nd rfl (by first | exact Or.inl rfl | exact Or.inr rfl) (mn rfl) (Or.inl rfl) (d_add rfl (d_w (d_v (mn rfl) (pv 3))) (d_w (d_get (hu_of cm.room) (d_w (d_v (mn rfl) (pv 0))) (d_w (d_ix rfl (d_w (d_v (mn rfl) (pv 1))) (d_w (d_v (mn rfl) (pv 3))) (fun _ _ => rfl))) (fun _ _ => rfl)))))
    (s_cons (s_set (i := 6) sc_after_step.nd rfl (by first | exact Or.inl rfl | exact Or.inr rfl) (mn rfl) (Or.inl rfl) (d_sl rfl (d_w (d_v (mn rfl) (pv 1))) (o_so (d_w (d_v (mn rfl) (pv 3)))) (o_so (d_w (d_v (mn rfl) (pv 5))))))
    (s_cons (s_if (t_cmp (op_eqP hu) sem_eq (d_w (d_v (mn rfl) (pv 4))) (d_w d_int) (nomark _))
    (s_one (s_ret (d_add rfl (d_w (d_add rfl (d_w (d_add rfl (d_w (d_sl rfl (d_w (d_v (mn rfl) (pv 1))) o_no (o_so (d_w (d_v (mn rfl) (pv 3)))))) (d_w (d_ix rfl (d_w (d_v (mn rfl) (pv 1))) (d_w (d_v (mn rfl) (pv 5))) (fun _ _ => rfl))))) (d_w (d_v (mn rfl) (pv 6))))) (d_w (d_sl rfl (d_w (d_v (mn rfl) (pv 1))) (o_so (d_w (d_add rfl (d_w (d_v (mn rfl) (pv 5))) (d_w d_int)))) o_no)))))
    s_nil)
    (s_one (s_ret (d_add rfl (d_w (d_add rfl (d_w (d_add rfl (d_w (d_sl rfl (d_w (d_v (mn rfl) (pv 1))) o_no (o_so (d_w (d_sub (d_w (d_v (mn rfl) (pv 3))) (d_w d_int)))))) (d_w (d_v (mn rfl) (pv 6))))) (d_w (d_ix rfl (d_w (d_v (mn rfl) (pv 1))) (d_w (d_sub (d_w (d_v (mn rfl) (pv 3))) (d_w d_int))) (fun _ _ => rfl))))) (d_w (d_sl rfl (d_w (d_v (mn rfl) (pv 1))) (o_so (d_w (d_v (mn rfl) (pv 5)))) o_no)))))))))
end
end My
end
section
set_option Elab.async false
set_option linter.all false
set_option maxRecDepth 100000
set_option maxHeartbeats 4000000
namespace My
open PySem PySem.Spec PyProof.Rows L2 XK EV
noncomputable section
variable {P : Program} {w : World} {K : PySem.W.Frag} {mg : Str → Option Value} {base : Heap}
abbrev N_ring_crews_at : List Str := ["roster", "ring", "sizes", "lines", "place", "line"]
theorem sc_ring_crews_at : FnScope N_ring_crews_at ["roster", "ring"] (defScope S_ring_crews_at) := ⟨rfl, rfl, rfl, by decide +kernel, rfl, by decide +kernel, by decide +kernel⟩
def m_ring_crews_at : Sm := (mSeq (mExpr ((eCall s_check_ring (aCons (vr 0) (aCons (vr 1) aNil)))))
  (mSeq (mSet 2 ((eDict (vr 0))))
  (mSeq (mSet 3 (eLc [4] (iRng (aCons ((eB vLen (aCons (vr 1) aNil))) aNil)) (gN 4) (noIf) ((eCall s_turned (aCons (vr 0) (aCons (vr 1) (aCons ((eNeg (vr 4))) aNil)))))))
  (mRet ((eB vTuple (aCons ((eLc [4, 5] (iEnuL (aCons (vr 3) aNil)) (gT 2 (gsCons (gN 4) (gsCons (gN 5) gsNil))) ((tru ((eCall s_is_crew_at (aCons (vr 2) (aCons (vr 5) (aCons (kI 0) aNil))))))) (vr 4))) aNil)))))))
def s_ring_crews_at : List Val → R := runP (["roster", "ring"] : List Str).length (N_ring_crews_at).length m_ring_crews_at
theorem go_ring_crews_at {a0 a1 d : Val} (h : Al (m_ring_crews_at [some a0, some a1, none, none, none, none]) 0 (isRt d) (fun _ _ => False)) : s_ring_crews_at [a0, a1] = .ret d := go_run (ds := [a0, a1]) (np := (["roster", "ring"] : List Str).length) (N := (N_ring_crews_at).length) (m := m_ring_crews_at) (e := [some a0, some a1, none, none, none, none]) rfl rfl h
theorem ge_ring_crews_at {a0 a1 : Val} {x : Err} (h : Al (m_ring_crews_at [some a0, some a1, none, none, none, none]) 0 (isEx x) (fun e _ => e = x)) : s_ring_crews_at [a0, a1] = .err x := ge_run (ds := [a0, a1]) (np := (["roster", "ring"] : List Str).length) (N := (N_ring_crews_at).length) (m := m_ring_crews_at) (e := [some a0, some a1, none, none, none, none]) rfl rfl h
theorem ok_ring_crews_at (Z : Wd K mg base) : FnG P w K mg base 9 Z.f_ring_crews_at Z.d_ring_crews_at ["roster", "ring"] (spP K Z.cl Z.tb s_ring_crews_at) :=
  def_pC (N := N_ring_crews_at) (m := m_ring_crews_at) [] Z.F_ring_crews_at sc_ring_crews_at (by decide) fun cdv A fr s H S E hcd cm =>
    have hu := cm.room.units
    (s_cons (s_expr (d_call (ok_check_ring Z) (cm.mono (by decide)) rfl Z.n_check_ring Z.F_check_ring.kp Z.b_check_ring (fun σ => passAt (takes_of rfl rfl rfl rfl) σ) (a_cons (d_v (mn rfl) (pv 0)) (a_cons (d_v (mn rfl) (pv 1)) a_nil))))
    (s_cons (s_set (i := 2) sc_ring_crews_at.nd rfl (by first | exact Or.inl rfl | exact Or.inr rfl) (mn rfl) (Or.inl rfl) (d_sh (d_dictN rfl rfl rfl Z.z_dict (d_v (mn rfl) (pv 0)))))
    (s_cons (s_setLc (own := [("place", 4)]) (mn rfl) (Or.inl rfl) rfl sc_ring_crews_at.nd rfl rfl (sw_true rfl rfl rfl (by decide +kernel)) (i_c (i_range1 rfl Z.z_range (w_cons (d_w (d_callB call_lenA sem_len (by rfl) Z.z_len PySem.boot_len (w_cons (d_w (d_v (mn rfl) (pv 1))) w_nil))) w_nil))) (blkOk_by (N := N_ring_crews_at) (sc := defScope S_ring_crews_at) (by decide +kernel)) (ma rfl) (Or.inl rfl) (fun _ _ _ _ _ => (g_name (vs := [4]) (mi rfl) sc_ring_crews_at.nd rfl (by first | exact Or.inl rfl | exact Or.inr rfl) (mn rfl) (Or.inl rfl))) (fun _ _ _ _ _ => ts_nil) (fun _ _ _ _ _ => (d_call (ok_turned Z) cm rfl Z.n_turned Z.F_turned.kp Z.b_turned quiets (a_cons (d_v (mn rfl) (pv 0)) (a_cons (d_v (mn rfl) (pv 1)) (a_cons (d_neg (d_v (mn rfl) (pv 4))) a_nil))))))
    (s_one (s_ret (d_callTy call_tupleP sem_tuple (by rfl) Z.z_tuple (by decide +kernel) (w_cons (d_w (d_sh (d_lcN (own := [("place", 4), ("line", 5)]) rfl sc_ring_crews_at.nd (i_c (i_enumL rfl rfl Z.z_enumerate (a_cons (d_v (mn rfl) (pv 3)) a_nil))) (blkOk_by (N := N_ring_crews_at) (sc := defScope S_ring_crews_at) (by decide +kernel)) (ma rfl) (Or.inl rfl) (fun _ _ _ _ _ => (g_tup rfl rfl (gs_cons (g_name (vs := [4, 5]) (mi rfl) sc_ring_crews_at.nd rfl (by first | exact Or.inl rfl | exact Or.inr rfl) (mn rfl) (Or.inl rfl)) (gs_cons (g_name (vs := [4, 5]) (mi rfl) sc_ring_crews_at.nd rfl (by first | exact Or.inl rfl | exact Or.inr rfl) (mn rfl) (Or.inl rfl)) gs_nil)))) (fun _ _ _ _ _ => (ts_one (t_tru rfl (d_w (d_call (ok_is_crew_at Z) (cm.mono (by decide)) rfl Z.n_is_crew_at Z.F_is_crew_at.kp Z.b_is_crew_at quiets (a_cons (d_v (mn rfl) (pv 2)) (a_cons (d_v (mn rfl) (pv 5)) (a_cons d_int a_nil)))))))) (fun _ _ _ _ _ => (d_v (mn rfl) (pv 4)))))) w_nil)))))))
end
end My
end
section
set_option Elab.async false
set_option linter.all false
set_option maxRecDepth 100000
set_option maxHeartbeats 4000000
namespace My
open PySem PySem.Spec PyProof.Rows L2 XK EV
noncomputable section
variable {P : Program} {w : World} {K : PySem.W.Frag} {mg : Str → Option Value} {base : Heap}
abbrev N__after_ring_step : List Str := ["roster", "ring", "step", "place", "side", "first", "line", "sizes"]
theorem sc__after_ring_step : FnScope N__after_ring_step ["roster", "ring", "step"] (defScope S__after_ring_step) := ⟨rfl, rfl, rfl, by decide +kernel, rfl, by decide +kernel, by decide +kernel⟩
def m__after_ring_step : Sm := (mSeq (mAsg (gT 2 (gsCons (gN 3) (gsCons (gN 4) gsNil))) (vr 2))
  (mSeq (mIf ((tst (eBin vGe (vr 3) ((eB vLen (aCons (vr 1) aNil)))))) (mRet (kN)) mNil)
  (mSeq (mSet 5 ((eIf ((tst (eBin eqG (vr 4) (kI 1)))) (vr 3) ((eBin vSub (vr 3) (kI 1))))))
  (mSeq (mSet 6 ((eCall s_turned (aCons (vr 0) (aCons (vr 1) (aCons ((eNeg (vr 5))) aNil))))))
  (mSeq (mSet 2 ((eTup (aCons ((eBin vSub (vr 3) (vr 5))) (aCons (vr 4) aNil)))))
  (mSeq (mSet 7 ((eDict (vr 0))))
  (mSeq (mIf ((tNo ((tru ((eCall s_is_possible (aCons (vr 7) (aCons (vr 6) (aCons (vr 2) aNil))))))))) (mRet (kN)) mNil)
  (mRet ((eCall s_turned (aCons (vr 0) (aCons ((eCall s_after_step (aCons (vr 7) (aCons (vr 6) (aCons (vr 2) aNil))))) (aCons (vr 5) aNil)))))))))))))
def s__after_ring_step : List Val → R := runP (["roster", "ring", "step"] : List Str).length (N__after_ring_step).length m__after_ring_step
theorem go__after_ring_step {a0 a1 a2 d : Val} (h : Al (m__after_ring_step [some a0, some a1, some a2, none, none, none, none, none]) 0 (isRt d) (fun _ _ => False)) : s__after_ring_step [a0, a1, a2] = .ret d := go_run (ds := [a0, a1, a2]) (np := (["roster", "ring", "step"] : List Str).length) (N := (N__after_ring_step).length) (m := m__after_ring_step) (e := [some a0, some a1, some a2, none, none, none, none, none]) rfl rfl h
theorem ge__after_ring_step {a0 a1 a2 : Val} {x : Err} (h : Al (m__after_ring_step [some a0, some a1, some a2, none, none, none, none, none]) 0 (isEx x) (fun e _ => e = x)) : s__after_ring_step [a0, a1, a2] = .err x := ge_run (ds := [a0, a1, a2]) (np := (["roster", "ring", "step"] : List Str).length) (N := (N__after_ring_step).length) (m := m__after_ring_step) (e := [some a0, some a1, some a2, none, none, none, none, none]) rfl rfl h
theorem ok__after_ring_step (Z : Wd K mg base) : FnG P w K mg base 9 Z.f__after_ring_step Z.d__after_ring_step ["roster", "ring", "step"] (spP K Z.cl Z.tb s__after_ring_step) :=
  def_pC (N := N__after_ring_step) (m := m__after_ring_step) [] Z.F__after_ring_step sc__after_ring_step (by decide) fun cdv A fr s H S E hcd cm =>
    have hu := cm.room.units
    (s_cons (s_asg (d_v (mn rfl) (pv 2)) (g_tup rfl rfl (gs_cons (g_name (vs := [3, 4]) (mi rfl) sc__after_ring_step.nd rfl (by first | exact Or.inl rfl | exact Or.inr rfl) (mn rfl) (Or.inl rfl)) (gs_cons (g_name (vs := [3, 4]) (mi rfl) sc__after_ring_step.nd rfl (by first | exact Or.inl rfl | exact Or.inr rfl) (mn rfl) (Or.inl rfl)) gs_nil))))
    (s_cons (s_if (t_cmp op_geA sem_ge (d_w (d_v (mn rfl) (pv 3))) (d_w (d_callB call_lenA sem_len (by rfl) Z.z_len PySem.boot_len (w_cons (d_w (d_v (mn rfl) (pv 1))) w_nil))) (nomark _))
    (s_one (s_ret d_non))
    s_nil)
    (s_cons (s_set (i := 5) sc__after_ring_step.nd rfl (by first | exact Or.inl rfl | exact Or.inr rfl) (mn rfl) (Or.inl rfl) (d_if (t_cmp (op_eqP hu) sem_eq (d_w (d_v (mn rfl) (pv 4))) (d_w d_int) (nomark _)) (d_v (mn rfl) (pv 3)) (d_sub (d_w (d_v (mn rfl) (pv 3))) (d_w d_int))))
    (s_cons (s_set (i := 6) sc__after_ring_step.nd rfl (by first | exact Or.inl rfl | exact Or.inr rfl) (mn rfl) (Or.inl rfl) (d_call (ok_turned Z) cm rfl Z.n_turned Z.F_turned.kp Z.b_turned (fun σ => passAt (takes_of rfl rfl rfl rfl) σ) (a_cons (d_v (mn rfl) (pv 0)) (a_cons (d_v (mn rfl) (pv 1)) (a_cons (d_neg (d_v (mn rfl) (pv 5))) a_nil)))))
    (s_cons (s_set (i := 2) sc__after_ring_step.nd rfl (by first | exact Or.inl rfl | exact Or.inr rfl) (mn rfl) (Or.inl rfl) (d_tup (a_cons (d_sub (d_w (d_v (mn rfl) (pv 3))) (d_w (d_v (mn rfl) (pv 5)))) (a_cons (d_v (mn rfl) (pv 4)) a_nil))))
    (s_cons (s_set (i := 7) sc__after_ring_step.nd rfl (by first | exact Or.inl rfl | exact Or.inr rfl) (mn rfl) (Or.inl rfl) (d_sh (d_dictN rfl rfl rfl Z.z_dict (d_v (mn rfl) (pv 0)))))
    (s_cons (s_if (t_not (t_tru rfl (d_w (d_call (ok_is_possible Z) (cm.mono (by decide)) rfl Z.n_is_possible Z.F_is_possible.kp Z.b_is_possible (fun σ => passAt (takes_of rfl rfl rfl rfl) σ) (a_cons (d_v (mn rfl) (pv 7)) (a_cons (d_v (mn rfl) (pv 6)) (a_cons (d_v (mn rfl) (pv 2)) a_nil)))))))
    (s_one (s_ret d_non))
    s_nil)
    (s_one (s_ret (d_call (ok_turned Z) cm rfl Z.n_turned Z.F_turned.kp Z.b_turned (fun σ => passAt (takes_of rfl rfl rfl rfl) σ) (a_cons (d_v (mn rfl) (pv 0)) (a_cons (d_call (ok_after_step Z) (cm.mono (by decide)) rfl Z.n_after_step Z.F_after_step.kp Z.b_after_step (fun σ => passAt (takes_of rfl rfl rfl rfl) σ) (a_cons (d_v (mn rfl) (pv 7)) (a_cons (d_v (mn rfl) (pv 6)) (a_cons (d_v (mn rfl) (pv 2)) a_nil)))) (a_cons (d_v (mn rfl) (pv 5)) a_nil)))))))))))))
end
end My
end
section
set_option Elab.async false
set_option linter.all false
set_option maxRecDepth 100000
set_option maxHeartbeats 4000000
namespace My
open PySem PySem.Spec PyProof.Rows L2 XK EV
noncomputable section
variable {P : Program} {w : World} {K : PySem.W.Frag} {mg : Str → Option Value} {base : Heap}
abbrev N_ring_steps_of : List Str := ["roster", "ring", "badge", "steps", "step"]
theorem sc_ring_steps_of : FnScope N_ring_steps_of ["roster", "ring", "badge"] (defScope S_ring_steps_of) := ⟨rfl, rfl, rfl, by decide +kernel, rfl, by decide +kernel, by decide +kernel⟩
def m_ring_steps_of : Sm := (mSeq (mExpr ((eCall s_check_ring (aCons (vr 0) (aCons (vr 1) aNil)))))
  (mSeq (mSet 3 ((eCall s_steps_to_try (aCons (vr 0) (aCons (vr 1) (aCons (vr 2) aNil))))))
  (mRet ((eB vTuple (aCons ((eLc [4] (iOf (vr 3)) (gN 4) ((tst (eBin vIsNot ((eCall s__after_ring_step (aCons (vr 0) (aCons (vr 1) (aCons (vr 4) aNil))))) (kN)))) (vr 4))) aNil))))))
def s_ring_steps_of : List Val → R := runP (["roster", "ring", "badge"] : List Str).length (N_ring_steps_of).length m_ring_steps_of
theorem go_ring_steps_of {a0 a1 a2 d : Val} (h : Al (m_ring_steps_of [some a0, some a1, some a2, none, none]) 0 (isRt d) (fun _ _ => False)) : s_ring_steps_of [a0, a1, a2] = .ret d := go_run (ds := [a0, a1, a2]) (np := (["roster", "ring", "badge"] : List Str).length) (N := (N_ring_steps_of).length) (m := m_ring_steps_of) (e := [some a0, some a1, some a2, none, none]) rfl rfl h
theorem ge_ring_steps_of {a0 a1 a2 : Val} {x : Err} (h : Al (m_ring_steps_of [some a0, some a1, some a2, none, none]) 0 (isEx x) (fun e _ => e = x)) : s_ring_steps_of [a0, a1, a2] = .err x := ge_run (ds := [a0, a1, a2]) (np := (["roster", "ring", "badge"] : List Str).length) (N := (N_ring_steps_of).length) (m := m_ring_steps_of) (e := [some a0, some a1, some a2, none, none]) rfl rfl h
theorem ok_ring_steps_of (Z : Wd K mg base) : FnG P w K mg base 10 Z.f_ring_steps_of Z.d_ring_steps_of ["roster", "ring", "badge"] (spP K Z.cl Z.tb s_ring_steps_of) :=
  def_pC (N := N_ring_steps_of) (m := m_ring_steps_of) [] Z.F_ring_steps_of sc_ring_steps_of (by decide) fun cdv A fr s H S E hcd cm =>
    have hu := cm.room.units
    (s_cons (s_expr (d_call (ok_check_ring Z) (cm.mono (by decide)) rfl Z.n_check_ring Z.F_check_ring.kp Z.b_check_ring (fun σ => passAt (takes_of rfl rfl rfl rfl) σ) (a_cons (d_v (mn rfl) (pv 0)) (a_cons (d_v (mn rfl) (pv 1)) a_nil))))
    (s_cons (s_set (i := 3) sc_ring_steps_of.nd rfl (by first | exact Or.inl rfl | exact Or.inr rfl) (mn rfl) (Or.inl rfl) (d_call (ok_steps_to_try Z) (cm.mono (by decide)) rfl Z.n_steps_to_try Z.F_steps_to_try.kp Z.b_steps_to_try (fun σ => passAt (takes_of rfl rfl rfl rfl) σ) (a_cons (d_v (mn rfl) (pv 0)) (a_cons (d_v (mn rfl) (pv 1)) (a_cons (d_v (mn rfl) (pv 2)) a_nil)))))
    (s_one (s_ret (d_callTy call_tupleP sem_tuple (by rfl) Z.z_tuple (by decide +kernel) (w_cons (d_w (d_sh (d_lcN (own := [("step", 4)]) rfl sc_ring_steps_of.nd (i_c (i_of rfl (d_v (mn rfl) (pv 3)))) (blkOk_by (N := N_ring_steps_of) (sc := defScope S_ring_steps_of) (by decide +kernel)) (ma rfl) (Or.inl rfl) (fun _ _ _ _ _ => (g_name (vs := [4]) (mi rfl) sc_ring_steps_of.nd rfl (by first | exact Or.inl rfl | exact Or.inr rfl) (mn rfl) (Or.inl rfl))) (fun _ _ _ _ _ => (ts_one (t_cmp op_isNotA sem_isNot (d_w (d_call (ok__after_ring_step Z) cm rfl Z.n__after_ring_step Z.F__after_ring_step.kp Z.b__after_ring_step quiets (a_cons (d_v (mn rfl) (pv 0)) (a_cons (d_v (mn rfl) (pv 1)) (a_cons (d_v (mn rfl) (pv 4)) a_nil))))) (d_w d_non) (nomark _)))) (fun _ _ _ _ _ => (d_v (mn rfl) (pv 4)))))) w_nil))))))
end
end My
end
section
set_option Elab.async false
set_option linter.all false
set_option maxRecDepth 100000
set_option maxHeartbeats 4000000
namespace My
open PySem PySem.Spec PyProof.Rows L2 XK EV
noncomputable section
variable {P : Program} {w : World} {K : PySem.W.Frag} {mg : Str → Option Value} {base : Heap}
abbrev N_ring_after_walk : List Str := ["roster", "ring", "walk", "index", "step"]
theorem sc_ring_after_walk : FnScope N_ring_after_walk ["roster", "ring", "walk"] (defScope S_ring_after_walk) := ⟨rfl, rfl, rfl, by decide +kernel, rfl, by decide +kernel, by decide +kernel⟩
def m_ring_after_walk : Sm := (mSeq (mExpr ((eCall s_check_ring (aCons (vr 0) (aCons (vr 1) aNil)))))
  (mSeq (mExpr ((eCall s_check_walk (aCons (vr 2) aNil))))
  (mSeq (mFor (gT 2 (gsCons (gN 3) (gsCons (gN 4) gsNil))) (iEnuT (aCons (vr 2) aNil)) (mSeq (mSet 1 ((eCall s__after_ring_step (aCons (vr 0) (aCons (vr 1) (aCons (vr 4) aNil))))))
  (mIf ((tst (eBin vIs (vr 1) (kN)))) (mRaise "NotPossible" "index" (vr 3)) mNil)))
  (mRet (vr 1)))))
def s_ring_after_walk : List Val → R := runP (["roster", "ring", "walk"] : List Str).length (N_ring_after_walk).length m_ring_after_walk
theorem go_ring_after_walk {a0 a1 a2 d : Val} (h : Al (m_ring_after_walk [some a0, some a1, some a2, none, none]) 0 (isRt d) (fun _ _ => False)) : s_ring_after_walk [a0, a1, a2] = .ret d := go_run (ds := [a0, a1, a2]) (np := (["roster", "ring", "walk"] : List Str).length) (N := (N_ring_after_walk).length) (m := m_ring_after_walk) (e := [some a0, some a1, some a2, none, none]) rfl rfl h
theorem ge_ring_after_walk {a0 a1 a2 : Val} {x : Err} (h : Al (m_ring_after_walk [some a0, some a1, some a2, none, none]) 0 (isEx x) (fun e _ => e = x)) : s_ring_after_walk [a0, a1, a2] = .err x := ge_run (ds := [a0, a1, a2]) (np := (["roster", "ring", "walk"] : List Str).length) (N := (N_ring_after_walk).length) (m := m_ring_after_walk) (e := [some a0, some a1, some a2, none, none]) rfl rfl h
theorem ok_ring_after_walk (Z : Wd K mg base) : FnG P w K mg base 10 Z.f_ring_after_walk Z.d_ring_after_walk ["roster", "ring", "walk"] (spP K Z.cl Z.tb s_ring_after_walk) :=
  def_pC (N := N_ring_after_walk) (m := m_ring_after_walk) [] Z.F_ring_after_walk sc_ring_after_walk (by decide) fun cdv A fr s H S E hcd cm =>
    have hu := cm.room.units
    (s_cons (s_expr (d_call (ok_check_ring Z) (cm.mono (by decide)) rfl Z.n_check_ring Z.F_check_ring.kp Z.b_check_ring (fun σ => passAt (takes_of rfl rfl rfl rfl) σ) (a_cons (d_v (mn rfl) (pv 0)) (a_cons (d_v (mn rfl) (pv 1)) a_nil))))
    (s_cons (s_expr (d_call (ok_check_walk Z) (cm.mono (by decide)) rfl Z.n_check_walk Z.F_check_walk.kp Z.b_check_walk (fun σ => passAt (takes_of rfl rfl rfl rfl) σ) (a_cons (d_v (mn rfl) (pv 2)) a_nil)))
    (s_cons (s_for (passes_of rfl) rfl (i_enumT rfl rfl Z.z_enumerate (a_cons (d_v (mn rfl) (pv 2)) a_nil)) (g_tup rfl rfl (gs_cons (g_name (vs := [3, 4]) (mi rfl) sc_ring_after_walk.nd rfl (by first | exact Or.inl rfl | exact Or.inr rfl) (mn rfl) (Or.inl rfl)) (gs_cons (g_name (vs := [3, 4]) (mi rfl) sc_ring_after_walk.nd rfl (by first | exact Or.inl rfl | exact Or.inr rfl) (mn rfl) (Or.inl rfl)) gs_nil)))
    (s_cons (s_set (i := 1) sc_ring_after_walk.nd rfl (by first | exact Or.inl rfl | exact Or.inr rfl) (mn rfl) (Or.inl rfl) (d_call (ok__after_ring_step Z) cm rfl Z.n__after_ring_step Z.F__after_ring_step.kp Z.b__after_ring_step (fun σ => passAt (takes_of rfl rfl rfl rfl) σ) (a_cons (d_v (mn rfl) (pv 0)) (a_cons (d_v (mn rfl) (pv 1)) (a_cons (d_v (mn rfl) (pv 4)) a_nil)))))
    (s_one (s_if (t_cmp op_isA sem_is (d_w (d_v (mn rfl) (pv 1))) (d_w d_non) (nomark _))
    (s_one (s_raiseG Z.T_NotPossible Z.cl_NotPossible (ini_NotPossible Z) Z.bi_NotPossible (cm.mono (by decide)).room rfl (takes_of rfl rfl rfl rfl) (d_v (mn rfl) (pv 3)) rfl))
    s_nil))))
    (s_one (s_ret (d_v (mn rfl) (pv 1)))))))
end
end My
end
section
set_option Elab.async false
set_option linter.all false
set_option maxRecDepth 100000
set_option maxHeartbeats 4000000
namespace My
open PySem PySem.Spec PyProof.Rows L2 XK EV
noncomputable section
variable {P : Program} {w : World} {K : PySem.W.Frag} {mg : Str → Option Value} {base : Heap}
abbrev N__law_roster : List Str := ["draw", "letters", "found", "at", "k"]
theorem sc__law_roster : FnScope N__law_roster ["draw"] (defScope S__law_roster) := ⟨rfl, rfl, rfl, by decide +kernel, rfl, by decide +kernel, by decide +kernel⟩
def m__law_roster : Sm := (mSeq (mSet 1 (kS "abcdefghijklmnopqrstuvwxyz"))
  (mSeq (mPars [2, 3] (aCons ((eLst aNil)) (aCons ((eDraw nextF (aCons (kI 18) aNil))) aNil)))
  (mSeq (mFor (gN 4) (iRng (aCons ((eBin vAdd (kI 1) ((eDraw nextF (aCons (kI 4) aNil))))) aNil)) (mSeq (mApp 2 ((eTup (aCons ((eBin vIx (vr 1) (vr 3))) (aCons ((eBin vIx ((eLst (aCons (kI 0) (aCons (kI 1) (aCons (kI 2) (aCons (kI 2) (aCons (kI 3) (aCons (kI 3) (aCons (kI 4) (aCons (kI 5) aNil)))))))))) ((eDraw nextF (aCons (kI 8) aNil))))) aNil)))))
  (mSet 3 ((eBin vAdd ((eBin vAdd (vr 3) (kI 1))) ((eDraw nextF (aCons (kI 2) aNil))))))))
  (mRet ((eB vTuple (aCons (vr 2) aNil)))))))
def s__law_roster : List Val → T Val := runD 0 (N__law_roster).length m__law_roster
theorem gd__law_roster {n : Nat} {Q : Val → Nat → Prop} {E : Err → Nat → Prop} (h : Al (m__law_roster [none, none, none, none, none]) n (outD Q E) E) : Al (s__law_roster []) n Q E := al_run (ds := []) (np := 0) (N := (N__law_roster).length) (m := m__law_roster) (e := [none, none, none, none, none]) rfl rfl h
theorem ok__law_roster (Z : Wd K mg base) : FnG P w K mg base 3 Z.f__law_roster Z.d__law_roster ["draw"] (spD K Z.cl Z.tb s__law_roster) :=
  def_dC (N := N__law_roster) (m := m__law_roster) [2] 0 Z.F__law_roster sc__law_roster rfl (by decide) fun cdv A fr s H S p cc E hcd cm =>
    have hu := cm.room.units
    (s_cons (s_set (i := 1) sc__law_roster.nd rfl (by first | exact Or.inl rfl | exact Or.inr rfl) (mn rfl) (Or.inr (nei rfl)) d_str)
    (s_cons (s_par2 (i := 2) (j := 3) rfl sc__law_roster.nd rfl rfl (by decide) rfl rfl (m_ow (mi rfl) (Or.inr (nei rfl)) (d_lstN a_nil) (m_sh (mn rfl) (Or.inr (nei rfl)) (d_draw (F := nextF) rfl (pv 0) (ok__law_next Z) cm rfl Z.n__law_next Z.F__law_next.kp Z.b__law_next (a_cons d_int a_nil)) m_nil)) (by rfl))
    (s_cons (s_for (passes_of rfl) rfl (i_range1 rfl Z.z_range (w_cons (d_w (d_add rfl (d_w d_int) (d_w (d_draw (F := nextF) rfl (pv 0) (ok__law_next Z) cm rfl Z.n__law_next Z.F__law_next.kp Z.b__law_next (a_cons d_int a_nil))))) w_nil)) (g_name (vs := [4]) (mi rfl) sc__law_roster.nd rfl (by first | exact Or.inl rfl | exact Or.inr rfl) (mn rfl) (Or.inr (nei rfl)))
    (s_cons (s_append (mi rfl) (pv 2) (d_tup (a_cons (d_ix rfl (d_w (d_v (mn rfl) (pv 1))) (d_w (d_v (mn rfl) (pv 3))) (fun _ _ => rfl)) (a_cons (d_ix rfl (d_w (d_sh (d_lstN (a_cons d_int (a_cons d_int (a_cons d_int (a_cons d_int (a_cons d_int (a_cons d_int (a_cons d_int (a_cons d_int a_nil))))))))))) (d_w (d_draw (F := nextF) rfl (pv 0) (ok__law_next Z) cm rfl Z.n__law_next Z.F__law_next.kp Z.b__law_next (a_cons d_int a_nil))) (fun _ _ => rfl)) a_nil))))
    (s_one (s_set (i := 3) sc__law_roster.nd rfl (by first | exact Or.inl rfl | exact Or.inr rfl) (mn rfl) (Or.inr (nei rfl)) (d_add rfl (d_w (d_add rfl (d_w (d_v (mn rfl) (pv 3))) (d_w d_int))) (d_w (d_draw (F := nextF) rfl (pv 0) (ok__law_next Z) cm rfl Z.n__law_next Z.F__law_next.kp Z.b__law_next (a_cons d_int a_nil))))))))
    (s_one (s_ret (d_callTy call_tupleP sem_tuple (by rfl) Z.z_tuple (by decide +kernel) (w_cons (d_w (d_v (mn rfl) (pv 2))) w_nil)))))))
end
end My
end
section
set_option Elab.async false
set_option linter.all false
set_option maxRecDepth 100000
set_option maxHeartbeats 4000000
namespace My
open PySem PySem.Spec PyProof.Rows L2 XK EV
noncomputable section
variable {P : Program} {w : World} {K : PySem.W.Frag} {mg : Str → Option Value} {base : Heap}
abbrev N__law_circle : List Str := ["draw", "table", "most", "found", "k", "letter", "size", "at", "part"]
theorem sc__law_circle : FnScope N__law_circle ["draw", "table", "most"] (defScope S__law_circle) := ⟨rfl, rfl, rfl, by decide +kernel, rfl, by decide +kernel, by decide +kernel⟩
def m__law_circle : Sm := (mSeq (mSet 3 (kS ""))
  (mSeq (mFor (gN 4) (iRng (aCons ((eDraw nextF (aCons ((eBin vAdd (vr 2) (kI 1))) aNil))) aNil)) (mSeq (mAsg (gT 2 (gsCons (gN 5) (gsCons (gN 6) gsNil))) ((eBin vIx (vr 1) ((eDraw nextF (aCons ((eB vLen (aCons (vr 1) aNil))) aNil))))))
  (mSeq (mSet 7 ((eIf ((tst (eBin eqG ((eDraw nextF (aCons (kI 2) aNil))) (kI 0)))) ((eB vLen (aCons (vr 3) aNil))) ((eDraw nextF (aCons ((eBin vAdd ((eB vLen (aCons (vr 3) aNil))) (kI 1))) aNil))))))
  (mSeq (mSet 8 ((eIf ((tst (eBin vGt ((eDraw nextF (aCons (kI 3) aNil))) (kI 0)))) ((eBin vMulA (vr 5) ((eB vMax (aCons (kI 1) (aCons (vr 6) aNil)))))) (vr 5))))
  (mIf ((tst (eBin vLe ((eBin vAdd ((eB vLen (aCons (vr 3) aNil))) ((eB vLen (aCons (vr 8) aNil))))) (vr 2)))) (mSet 3 ((eBin vAdd ((eBin vAdd ((eSl (vr 3) oNo (oSo (vr 7)))) (vr 8))) ((eSl (vr 3) (oSo (vr 7)) oNo))))) mNil)))))
  (mSeq (mSet 3 ((eIf ((tst (eBin neG (vr 3) (kS "")))) (vr 3) ((eBin vMulA ((eBin vIx ((eBin vIx (vr 1) (kI 0))) (kI 0))) ((eBin vAdd (kI 1) ((eDraw nextF (aCons (vr 2) aNil))))))))))
  (mSeq (mSet 7 ((eDraw nextF (aCons ((eB vLen (aCons (vr 3) aNil))) aNil))))
  (mRet ((eBin vAdd ((eSl (vr 3) (oSo (vr 7)) oNo)) ((eSl (vr 3) oNo (oSo (vr 7)))))))))))
def s__law_circle : List Val → T Val := runD 2 (N__law_circle).length m__law_circle
theorem gd__law_circle {a0 a1 : Val} {n : Nat} {Q : Val → Nat → Prop} {E : Err → Nat → Prop} (h : Al (m__law_circle [none, some a0, some a1, none, none, none, none, none, none]) n (outD Q E) E) : Al (s__law_circle [a0, a1]) n Q E := al_run (ds := [a0, a1]) (np := 2) (N := (N__law_circle).length) (m := m__law_circle) (e := [none, some a0, some a1, none, none, none, none, none, none]) rfl rfl h
theorem ok__law_circle (Z : Wd K mg base) : FnG P w K mg base 3 Z.f__law_circle Z.d__law_circle ["draw", "table", "most"] (spD K Z.cl Z.tb s__law_circle) :=
  def_dC (N := N__law_circle) (m := m__law_circle) [] 2 Z.F__law_circle sc__law_circle rfl (by decide) fun cdv A fr s H S p cc E hcd cm =>
    have hu := cm.room.units
    (s_cons (s_set (i := 3) sc__law_circle.nd rfl (by first | exact Or.inl rfl | exact Or.inr rfl) (mn rfl) (Or.inr (nei rfl)) d_str)
    (s_cons (s_for (passes_of rfl) rfl (i_range1 rfl Z.z_range (w_cons (d_w (d_draw (F := nextF) rfl (pv 0) (ok__law_next Z) cm rfl Z.n__law_next Z.F__law_next.kp Z.b__law_next (a_cons (d_add rfl (d_w (d_v (mn rfl) (pv 2))) (d_w d_int)) a_nil))) w_nil)) (g_name (vs := [4]) (mi rfl) sc__law_circle.nd rfl (by first | exact Or.inl rfl | exact Or.inr rfl) (mn rfl) (Or.inr (nei rfl)))
    (s_cons (s_asg (d_ix rfl (d_w (d_v (mn rfl) (pv 1))) (d_w (d_draw (F := nextF) rfl (pv 0) (ok__law_next Z) cm rfl Z.n__law_next Z.F__law_next.kp Z.b__law_next (a_cons (d_callB call_lenA sem_len (by rfl) Z.z_len PySem.boot_len (w_cons (d_w (d_v (mn rfl) (pv 1))) w_nil)) a_nil))) (fun _ _ => rfl)) (g_tup rfl rfl (gs_cons (g_name (vs := [5, 6]) (mi rfl) sc__law_circle.nd rfl (by first | exact Or.inl rfl | exact Or.inr rfl) (mn rfl) (Or.inr (nei rfl))) (gs_cons (g_name (vs := [5, 6]) (mi rfl) sc__law_circle.nd rfl (by first | exact Or.inl rfl | exact Or.inr rfl) (mn rfl) (Or.inr (nei rfl))) gs_nil))))
    (s_cons (s_set (i := 7) sc__law_circle.nd rfl (by first | exact Or.inl rfl | exact Or.inr rfl) (mn rfl) (Or.inr (nei rfl)) (d_if (t_cmp (op_eqP hu) sem_eq (d_w (d_draw (F := nextF) rfl (pv 0) (ok__law_next Z) cm rfl Z.n__law_next Z.F__law_next.kp Z.b__law_next (a_cons d_int a_nil))) (d_w d_int) (nomark _)) (d_callB call_lenA sem_len (by rfl) Z.z_len PySem.boot_len (w_cons (d_w (d_v (mn rfl) (pv 3))) w_nil)) (d_draw (F := nextF) rfl (pv 0) (ok__law_next Z) cm rfl Z.n__law_next Z.F__law_next.kp Z.b__law_next (a_cons (d_add rfl (d_w (d_callB call_lenA sem_len (by rfl) Z.z_len PySem.boot_len (w_cons (d_w (d_v (mn rfl) (pv 3))) w_nil))) (d_w d_int)) a_nil))))
    (s_cons (s_set (i := 8) sc__law_circle.nd rfl (by first | exact Or.inl rfl | exact Or.inr rfl) (mn rfl) (Or.inr (nei rfl)) (d_if (t_cmp op_gtA sem_gt (d_w (d_draw (F := nextF) rfl (pv 0) (ok__law_next Z) cm rfl Z.n__law_next Z.F__law_next.kp Z.b__law_next (a_cons d_int a_nil))) (d_w d_int) (nomark _)) (d_mul (d_w (d_v (mn rfl) (pv 5))) (d_w (d_callB (call_max2 rfl) sem_max (by rfl) Z.z_max (by decide +kernel) (w_cons (d_w d_int) (w_cons (d_w (d_v (mn rfl) (pv 6))) w_nil))))) (d_v (mn rfl) (pv 5))))
    (s_one (s_if (t_cmp op_leA sem_le (d_w (d_add rfl (d_w (d_callB call_lenA sem_len (by rfl) Z.z_len PySem.boot_len (w_cons (d_w (d_v (mn rfl) (pv 3))) w_nil))) (d_w (d_callB call_lenA sem_len (by rfl) Z.z_len PySem.boot_len (w_cons (d_w (d_v (mn rfl) (pv 8))) w_nil))))) (d_w (d_v (mn rfl) (pv 2))) (nomark _))
    (s_one (s_set (i := 3) sc__law_circle.nd rfl (by first | exact Or.inl rfl | exact Or.inr rfl) (mn rfl) (Or.inr (nei rfl)) (d_add rfl (d_w (d_add rfl (d_w (d_sl rfl (d_w (d_v (mn rfl) (pv 3))) o_no (o_so (d_w (d_v (mn rfl) (pv 7)))))) (d_w (d_v (mn rfl) (pv 8))))) (d_w (d_sl rfl (d_w (d_v (mn rfl) (pv 3))) (o_so (d_w (d_v (mn rfl) (pv 7)))) o_no)))))
    s_nil))))))
    (s_cons (s_set (i := 3) sc__law_circle.nd rfl (by first | exact Or.inl rfl | exact Or.inr rfl) (mn rfl) (Or.inr (nei rfl)) (d_if (t_cmp (op_neP hu) sem_ne (d_w (d_v (mn rfl) (pv 3))) (d_w d_str) (nomark _)) (d_v (mn rfl) (pv 3)) (d_mul (d_w (d_ix rfl (d_w (d_ix rfl (d_w (d_v (mn rfl) (pv 1))) (d_w d_int) (fun _ _ => rfl))) (d_w d_int) (fun _ _ => rfl))) (d_w (d_add rfl (d_w d_int) (d_w (d_draw (F := nextF) rfl (pv 0) (ok__law_next Z) cm rfl Z.n__law_next Z.F__law_next.kp Z.b__law_next (a_cons (d_v (mn rfl) (pv 2)) a_nil))))))))
    (s_cons (s_set (i := 7) sc__law_circle.nd rfl (by first | exact Or.inl rfl | exact Or.inr rfl) (mn rfl) (Or.inr (nei rfl)) (d_draw (F := nextF) rfl (pv 0) (ok__law_next Z) cm rfl Z.n__law_next Z.F__law_next.kp Z.b__law_next (a_cons (d_callB call_lenA sem_len (by rfl) Z.z_len PySem.boot_len (w_cons (d_w (d_v (mn rfl) (pv 3))) w_nil)) a_nil)))
    (s_one (s_ret (d_add rfl (d_w (d_sl rfl (d_w (d_v (mn rfl) (pv 3))) (o_so (d_w (d_v (mn rfl) (pv 7)))) o_no)) (d_w (d_sl rfl (d_w (d_v (mn rfl) (pv 3))) o_no (o_so (d_w (d_v (mn rfl) (pv 7)))))))))))))
end
end My
end
section
set_option Elab.async false
set_option linter.all false
set_option maxRecDepth 100000
set_option maxHeartbeats 4000000
namespace My
open PySem PySem.Spec PyProof.Rows L2 XK EV
noncomputable section
variable {P : Program} {w : World} {K : PySem.W.Frag} {mg : Str → Option Value} {base : Heap}
abbrev N__law_crew : List Str := ["sizes", "row", "at", "size", "many", "k"]
theorem sc__law_crew : FnScope N__law_crew ["sizes", "row", "at"] (defScope S__law_crew) := ⟨rfl, rfl, rfl, by decide +kernel, rfl, by decide +kernel, by decide +kernel⟩
def m__law_crew : Sm := (mSeq (mPars [3, 4] (aCons ((eBin vGet (vr 0) ((eBin vIx (vr 1) (vr 2))))) (aCons ((eB vLen (aCons (vr 1) aNil))) aNil)))
  (mSeq (mIf ((tst (eBin vGt (vr 3) (vr 4)))) (mRet (kI 0)) mNil)
  (mSeq (mFor (gN 5) (iRng (aCons (vr 3) aNil)) (mIf ((tst (eBin neG ((eBin vIx (vr 1) ((eBin vMod ((eBin vAdd (vr 2) (vr 5))) (vr 4))))) ((eBin vIx (vr 1) (vr 2)))))) (mRet (kI 0)) mNil))
  (mRet (vr 3)))))
def s__law_crew : List Val → R := runP (["sizes", "row", "at"] : List Str).length (N__law_crew).length m__law_crew
theorem go__law_crew {a0 a1 a2 d : Val} (h : Al (m__law_crew [some a0, some a1, some a2, none, none, none]) 0 (isRt d) (fun _ _ => False)) : s__law_crew [a0, a1, a2] = .ret d := go_run (ds := [a0, a1, a2]) (np := (["sizes", "row", "at"] : List Str).length) (N := (N__law_crew).length) (m := m__law_crew) (e := [some a0, some a1, some a2, none, none, none]) rfl rfl h
theorem ge__law_crew {a0 a1 a2 : Val} {x : Err} (h : Al (m__law_crew [some a0, some a1, some a2, none, none, none]) 0 (isEx x) (fun e _ => e = x)) : s__law_crew [a0, a1, a2] = .err x := ge_run (ds := [a0, a1, a2]) (np := (["sizes", "row", "at"] : List Str).length) (N := (N__law_crew).length) (m := m__law_crew) (e := [some a0, some a1, some a2, none, none, none]) rfl rfl h
theorem ok__law_crew (Z : Wd K mg base) : FnG P w K mg base 1 Z.f__law_crew Z.d__law_crew ["sizes", "row", "at"] (spP K Z.cl Z.tb s__law_crew) :=
  def_pC (N := N__law_crew) (m := m__law_crew) [] Z.F__law_crew sc__law_crew (by decide) fun cdv A fr s H S E hcd cm =>
    have hu := cm.room.units
    (s_cons (s_par2 (i := 3) (j := 4) rfl sc__law_crew.nd rfl rfl (by decide) rfl rfl (m_sh (mn rfl) (Or.inl rfl) (d_get (hu_of cm.room) (d_w (d_v (mn rfl) (pv 0))) (d_w (d_ix rfl (d_w (d_v (mn rfl) (pv 1))) (d_w (d_v (mn rfl) (pv 2))) (fun _ _ => rfl))) (fun _ _ => rfl)) (m_sh (mn rfl) (Or.inl rfl) (d_callB call_lenA sem_len (by rfl) Z.z_len PySem.boot_len (w_cons (d_w (d_v (mn rfl) (pv 1))) w_nil)) m_nil)) (by rfl))
    (s_cons (s_if (t_cmp op_gtA sem_gt (d_w (d_v (mn rfl) (pv 3))) (d_w (d_v (mn rfl) (pv 4))) (nomark _))
    (s_one (s_ret d_int))
    s_nil)
    (s_cons (s_for (passes_of rfl) rfl (i_range1 rfl Z.z_range (w_cons (d_w (d_v (mn rfl) (pv 3))) w_nil)) (g_name (vs := [5]) (mi rfl) sc__law_crew.nd rfl (by first | exact Or.inl rfl | exact Or.inr rfl) (mn rfl) (Or.inl rfl))
    (s_one (s_if (t_cmp (op_neP hu) sem_ne (d_w (d_ix rfl (d_w (d_v (mn rfl) (pv 1))) (d_w (d_mod (d_w (d_add rfl (d_w (d_v (mn rfl) (pv 2))) (d_w (d_v (mn rfl) (pv 5))))) (d_w (d_v (mn rfl) (pv 4))))) (fun _ _ => rfl))) (d_w (d_ix rfl (d_w (d_v (mn rfl) (pv 1))) (d_w (d_v (mn rfl) (pv 2))) (fun _ _ => rfl))) (nomark _))
    (s_one (s_ret d_int))
    s_nil)))
    (s_one (s_ret (d_v (mn rfl) (pv 3)))))))
end
end My
end
section
set_option Elab.async false
set_option linter.all false
set_option maxRecDepth 100000
set_option maxHeartbeats 4000000
namespace My
open PySem PySem.Spec PyProof.Rows L2 XK EV
noncomputable section
variable {P : Program} {w : World} {K : PySem.W.Frag} {mg : Str → Option Value} {base : Heap}
abbrev N__law_moved : List Str := ["sizes", "row", "step", "at", "side", "many", "size", "goal", "people", "k"]
theorem sc__law_moved : FnScope N__law_moved ["sizes", "row", "step"] (defScope S__law_moved) := ⟨rfl, rfl, rfl, by decide +kernel, rfl, by decide +kernel, by decide +kernel⟩
def m__law_moved : Sm := (mSeq (mAsg (gT 2 (gsCons (gN 3) (gsCons (gN 4) gsNil))) (vr 2))
  (mSeq (mSet 5 ((eB vLen (aCons (vr 1) aNil))))
  (mSeq (mSet 6 ((eIf ((tst (eBin vLt (vr 3) (vr 5)))) ((eCall s__law_crew (aCons (vr 0) (aCons (vr 1) (aCons (vr 3) aNil))))) (kI 0))))
  (mSeq (mIf ((tSome ((tst (eBin eqG (vr 6) (kI 0)))) ((tst (eBin eqG (vr 6) (vr 5)))))) (mRet (kS "")) mNil)
  (mSeq (mSet 7 ((eIf ((tst (eBin eqG (vr 4) (kI 1)))) ((eBin vMod ((eBin vAdd (vr 3) (vr 6))) (vr 5))) ((eBin vMod ((eBin vSub (vr 3) (kI 1))) (vr 5))))))
  (mSeq (mIf ((tst (eBin eqG ((eBin vIx (vr 1) (vr 7))) ((eBin vIx (vr 1) (vr 3)))))) (mRet (kS "")) mNil)
  (mSeq (mSet 8 ((eList (vr 1))))
  (mSeq (mFor (gN 9) (iRng (aCons (vr 6) aNil)) (mStore 8 ((eBin vMod ((eBin vAdd ((eBin vAdd (vr 3) (vr 9))) (vr 4))) (vr 5))) ((eBin vIx (vr 1) (vr 3)))))
  (mSeq (mStore 8 ((eIf ((tst (eBin eqG (vr 4) (kI 1)))) (vr 3) ((eBin vMod ((eBin vSub ((eBin vAdd (vr 3) (vr 6))) (kI 1))) (vr 5))))) ((eBin vIx (vr 1) (vr 7))))
  (mRet ((eJoin "" (vr 8)))))))))))))
def s__law_moved : List Val → R := runP (["sizes", "row", "step"] : List Str).length (N__law_moved).length m__law_moved
theorem go__law_moved {a0 a1 a2 d : Val} (h : Al (m__law_moved [some a0, some a1, some a2, none, none, none, none, none, none, none]) 0 (isRt d) (fun _ _ => False)) : s__law_moved [a0, a1, a2] = .ret d := go_run (ds := [a0, a1, a2]) (np := (["sizes", "row", "step"] : List Str).length) (N := (N__law_moved).length) (m := m__law_moved) (e := [some a0, some a1, some a2, none, none, none, none, none, none, none]) rfl rfl h
theorem ge__law_moved {a0 a1 a2 : Val} {x : Err} (h : Al (m__law_moved [some a0, some a1, some a2, none, none, none, none, none, none, none]) 0 (isEx x) (fun e _ => e = x)) : s__law_moved [a0, a1, a2] = .err x := ge_run (ds := [a0, a1, a2]) (np := (["sizes", "row", "step"] : List Str).length) (N := (N__law_moved).length) (m := m__law_moved) (e := [some a0, some a1, some a2, none, none, none, none, none, none, none]) rfl rfl h
theorem ok__law_moved (Z : Wd K mg base) : FnG P w K mg base 2 Z.f__law_moved Z.d__law_moved ["sizes", "row", "step"] (spP K Z.cl Z.tb s__law_moved) :=
  def_pC (N := N__law_moved) (m := m__law_moved) [8] Z.F__law_moved sc__law_moved (by decide) fun cdv A fr s H S E hcd cm =>
    have hu := cm.room.units
    (s_cons (s_asg (d_v (mn rfl) (pv 2)) (g_tup rfl rfl (gs_cons (g_name (vs := [3, 4]) (mi rfl) sc__law_moved.nd rfl (by first | exact Or.inl rfl | exact Or.inr rfl) (mn rfl) (Or.inl rfl)) (gs_cons (g_name (vs := [3, 4]) (mi rfl) sc__law_moved.nd rfl (by first | exact Or.inl rfl | exact Or.inr rfl) (mn rfl) (Or.inl rfl)) gs_nil))))
    (s_cons (s_set (i := 5) sc__law_moved.nd rfl (by first | exact Or.inl rfl | exact Or.inr rfl) (mn rfl) (Or.inl rfl) (d_callB call_lenA sem_len (by rfl) Z.z_len PySem.boot_len (w_cons (d_w (d_v (mn rfl) (pv 1))) w_nil)))
    (s_cons (s_set (i := 6) sc__law_moved.nd rfl (by first | exact Or.inl rfl | exact Or.inr rfl) (mn rfl) (Or.inl rfl) (d_if (t_cmp op_ltA sem_lt (d_w (d_v (mn rfl) (pv 3))) (d_w (d_v (mn rfl) (pv 5))) (nomark _)) (d_call (ok__law_crew Z) cm rfl Z.n__law_crew Z.F__law_crew.kp Z.b__law_crew (fun σ => passAt (takes_of rfl rfl rfl rfl) σ) (a_cons (d_v (mn rfl) (pv 0)) (a_cons (d_v (mn rfl) (pv 1)) (a_cons (d_v (mn rfl) (pv 3)) a_nil)))) d_int))
    (s_cons (s_if (PW.pt (w_or (t_cmp (op_eqP hu) sem_eq (d_w (d_v (mn rfl) (pv 6))) (d_w d_int) (nomark _)) (w_or1 (t_cmp (op_eqP hu) sem_eq (d_w (d_v (mn rfl) (pv 6))) (d_w (d_v (mn rfl) (pv 5))) (nomark _)))))
    (s_one (s_ret d_str))
    s_nil)
    (s_cons (s_set (i := 7) sc__law_moved.nd rfl (by first | exact Or.inl rfl | exact Or.inr rfl) (mn rfl) (Or.inl rfl) (d_if (t_cmp (op_eqP hu) sem_eq (d_w (d_v (mn rfl) (pv 4))) (d_w d_int) (nomark _)) (d_mod (d_w (d_add rfl (d_w (d_v (mn rfl) (pv 3))) (d_w (d_v (mn rfl) (pv 6))))) (d_w (d_v (mn rfl) (pv 5)))) (d_mod (d_w (d_sub (d_w (d_v (mn rfl) (pv 3))) (d_w d_int))) (d_w (d_v (mn rfl) (pv 5))))))
    (s_cons (s_if (t_cmp (op_eqP hu) sem_eq (d_w (d_ix rfl (d_w (d_v (mn rfl) (pv 1))) (d_w (d_v (mn rfl) (pv 7))) (fun _ _ => rfl))) (d_w (d_ix rfl (d_w (d_v (mn rfl) (pv 1))) (d_w (d_v (mn rfl) (pv 3))) (fun _ _ => rfl))) (nomark _))
    (s_one (s_ret d_str))
    s_nil)
    (s_cons (s_own (i := 8) sc__law_moved.nd rfl (by first | exact Or.inl rfl | exact Or.inr rfl) (mi rfl) (Or.inl rfl) (d_listN rfl rfl rfl Z.z_list (d_w (d_v (mn rfl) (pv 1)))))
    (s_cons (s_for (passes_of rfl) rfl (i_range1 rfl Z.z_range (w_cons (d_w (d_v (mn rfl) (pv 6))) w_nil)) (g_name (vs := [9]) (mi rfl) sc__law_moved.nd rfl (by first | exact Or.inl rfl | exact Or.inr rfl) (mn rfl) (Or.inl rfl))
    (s_one (s_store (mi rfl) (pv 8) (d_ix rfl (d_w (d_v (mn rfl) (pv 1))) (d_w (d_v (mn rfl) (pv 3))) (fun _ _ => rfl)) (d_mod (d_w (d_add rfl (d_w (d_add rfl (d_w (d_v (mn rfl) (pv 3))) (d_w (d_v (mn rfl) (pv 9))))) (d_w (d_v (mn rfl) (pv 4))))) (d_w (d_v (mn rfl) (pv 5)))))))
    (s_cons (s_store (mi rfl) (pv 8) (d_ix rfl (d_w (d_v (mn rfl) (pv 1))) (d_w (d_v (mn rfl) (pv 7))) (fun _ _ => rfl)) (d_if (t_cmp (op_eqP hu) sem_eq (d_w (d_v (mn rfl) (pv 4))) (d_w d_int) (nomark _)) (d_v (mn rfl) (pv 3)) (d_mod (d_w (d_sub (d_w (d_add rfl (d_w (d_v (mn rfl) (pv 3))) (d_w (d_v (mn rfl) (pv 6))))) (d_w d_int))) (d_w (d_v (mn rfl) (pv 5))))))
    (s_one (s_ret (d_join rfl pe_str (d_w (d_v (mn rfl) (pv 8)))))))))))))))
end
end My
end
section
set_option Elab.async false
set_option linter.all false
set_option maxRecDepth 100000
set_option maxHeartbeats 4000000
namespace My
open PySem PySem.Spec PyProof.Rows L2 XK EV
noncomputable section
variable {P : Program} {w : World} {K : PySem.W.Frag} {mg : Str → Option Value} {base : Heap}
abbrev N__law_raised : List Str := ["call", "caught", "e"]
theorem sc__law_raised : FnScope N__law_raised ["call"] (defScope S__law_raised) := ⟨rfl, rfl, rfl, by decide +kernel, rfl, by decide +kernel, by decide +kernel⟩
def m__law_raised (fA : Addr) (th : R) : Sm := (mSeq (mSet 1 (kN))
  (mSeq (mTry 2 (mExpr (eThk fA th))
  (mSet 1 (vr 2)))
  (mRet (vr 1))))
noncomputable def s__law_raised : R → R := runF (N__law_raised).length m__law_raised
theorem gl__law_raised {th : R} {d : Val} (h : ∀ fA, Al (m__law_raised fA th [some (.fn fA), none, none]) 0 (isRt d) (fun _ _ => False)) : s__law_raised th = .ret d := runF_of fun fA => (if_pos rfl).symm.trans (go_run (ds := [.fn fA]) (np := 1) (N := (N__law_raised).length) (m := m__law_raised fA th) (e := [some (.fn fA), none, none]) rfl rfl (h fA))
theorem gv__law_raised (Z : Wd K mg base) {X : Cx} {k : Nat} (hP : X.prog = P) (hw : X.w = w) (hK : X.K = K) (hm : X.mg = mg) (hb : X.base = base) (hk : 1 ≤ k) (cdv : Value) (q : Str) : GivesS X k N__law_raised "_law_raised" (defScope S__law_raised) Z.f__law_raised cdv (defBody S__law_raised) "call" q (TTh X.K Z.cl Z.tb fun th d => s__law_raised th = .ret d) := by
  subst hP hw hK hm hb
  exact gives_of (m := m__law_raised) [] (by decide) (by decide) fun fA th s H S cm0 thk =>
    have cm := cm0.mono hk
    have hu := cm.room.units
    (s_cons (s_set (i := 1) sc__law_raised.nd rfl (by first | exact Or.inl rfl | exact Or.inr rfl) (mn rfl) (Or.inl rfl) d_non)
    (s_cons (s_try (i := 2) rfl rfl rfl sc__law_raised.nd rfl rfl (mn rfl) (Or.inl rfl) rfl Z.n_CrewError rfl Z.n_StateError rfl Z.n_MissingError Z.exm_CrewError_StateError_MissingError
    (fun W pn xe tk => (s_one (s_expr (thk W pn xe tk _ _))))
    (fun a pn => (s_one (s_set (i := 1) sc__law_raised.nd rfl (by first | exact Or.inl rfl | exact Or.inr rfl) (mn rfl) (Or.inl rfl) (d_v (mn rfl) (pv 2))))))
    (s_one (s_ret (d_v (mn rfl) (pv 1))))))
end
end My
end
section
set_option Elab.async false
set_option linter.all false
set_option maxRecDepth 100000
set_option maxHeartbeats 4000000
namespace My
open PySem PySem.Spec PyProof.Rows L2 XK EV
noncomputable section
variable {P : Program} {w : World} {K : PySem.W.Frag} {mg : Str → Option Value} {base : Heap}
abbrev N__law_step_right : List Str := ["table", "row", "step", "due", "caught"]
theorem sc__law_step_right : FnScope N__law_step_right ["table", "row", "step", "due"] (defScope S__law_step_right) := ⟨rfl, rfl, rfl, by decide +kernel, rfl, by decide +kernel, by decide +kernel⟩
def m__law_step_right : Sm := (mSeq (mIf ((tst (eBin neG (vr 3) (kS "")))) (mRet ((eBin eqG ((eB vRepr (aCons ((eCall s_ring_after_walk (aCons (vr 0) (aCons (vr 1) (aCons ((eTup (aCons (vr 2) aNil))) aNil))))) aNil))) ((eB vRepr (aCons (vr 3) aNil)))))) mNil)
  (mSeq (mSet 4 ((eLam s__law_raised [] ((eCall s_ring_after_walk (aCons (vr 0) (aCons (vr 1) (aCons ((eTup (aCons (vr 2) aNil))) aNil))))))))
  (mRet ((eAnd ((eIsX (fun n : Str => decide (n = "NotPossible")) (vr 4))) ((eAnd ((eIsX (fun n : Str => decide (n ∈ (["NotPossible"] : List Str))) (vr 4))) ((eBin eqG ((eB vRepr (aCons ((eFld ["InvalidWalk", "NotPossible"] "index" (vr 4))) aNil))) (kS "0"))))))))))
def s__law_step_right : List Val → R := runP (["table", "row", "step", "due"] : List Str).length (N__law_step_right).length m__law_step_right
theorem go__law_step_right {a0 a1 a2 a3 d : Val} (h : Al (m__law_step_right [some a0, some a1, some a2, some a3, none]) 0 (isRt d) (fun _ _ => False)) : s__law_step_right [a0, a1, a2, a3] = .ret d := go_run (ds := [a0, a1, a2, a3]) (np := (["table", "row", "step", "due"] : List Str).length) (N := (N__law_step_right).length) (m := m__law_step_right) (e := [some a0, some a1, some a2, some a3, none]) rfl rfl h
theorem ge__law_step_right {a0 a1 a2 a3 : Val} {x : Err} (h : Al (m__law_step_right [some a0, some a1, some a2, some a3, none]) 0 (isEx x) (fun e _ => e = x)) : s__law_step_right [a0, a1, a2, a3] = .err x := ge_run (ds := [a0, a1, a2, a3]) (np := (["table", "row", "step", "due"] : List Str).length) (N := (N__law_step_right).length) (m := m__law_step_right) (e := [some a0, some a1, some a2, some a3, none]) rfl rfl h
theorem ok__law_step_right (Z : Wd K mg base) : FnG P w K mg base 13 Z.f__law_step_right Z.d__law_step_right ["table", "row", "step", "due"] (spP K Z.cl Z.tb s__law_step_right) :=
  def_pC (N := N__law_step_right) (m := m__law_step_right) [] Z.F__law_step_right sc__law_step_right (by decide) fun cdv A fr s H S E hcd cm =>
    have hu := cm.room.units
    (s_cons (s_if (t_cmp (op_neP hu) sem_ne (d_w (d_v (mn rfl) (pv 3))) (d_w d_str) (nomark _))
    (s_one (s_ret (d_cmp (op_eqP hu) sem_eq (d_w (d_callB (call_repr cm) sem_repr (by rfl) Z.z_repr (by decide +kernel) (w_cons (d_w (d_call (ok_ring_after_walk Z) (cm.mono (by decide)) rfl Z.n_ring_after_walk Z.F_ring_after_walk.kp Z.b_ring_after_walk (fun σ => passAt (takes_of rfl rfl rfl rfl) σ) (a_cons (d_v (mn rfl) (pv 0)) (a_cons (d_v (mn rfl) (pv 1)) (a_cons (d_tup (a_cons (d_v (mn rfl) (pv 2)) a_nil)) a_nil))))) w_nil))) (d_w (d_callB (call_repr cm) sem_repr (by rfl) Z.z_repr (by decide +kernel) (w_cons (d_w (d_v (mn rfl) (pv 3))) w_nil))) (nomark _))))
    s_nil)
    (s_cons (s_set (i := 4) sc__law_step_right.nd rfl (by first | exact Or.inl rfl | exact Or.inr rfl) (mn rfl) (Or.inl rfl) (d_lamF (k := 10) (F := s__law_raised) rfl Z.n__law_raised Z.F__law_raised Z.b__law_raised sc__law_raised rfl (.inl rfl) (fun cdv q => gv__law_raised Z rfl rfl rfl rfl rfl (by decide) cdv q) Z.tb__law_step_right (hcd.symm.trans Z.dc__law_step_right) Z.t__law_step_right Z.u__law_step_right cm rfl (LamX.lamS_by (sc := defScope S__law_step_right) (by decide +kernel)) rfl (fun _ _ _ _ _ => rfl) (fun A outer s H H0 S0 E f d cm => have hu := cm.room.units; (d_call (ok_ring_after_walk Z) cm rfl Z.n_ring_after_walk Z.F_ring_after_walk.kp Z.b_ring_after_walk (fun σ => passAt (takes_of rfl rfl rfl rfl) σ) (a_cons (d_v (mn rfl) (pv 0)) (a_cons (d_v (mn rfl) (pv 1)) (a_cons (d_tup (a_cons (d_v (mn rfl) (pv 2)) a_nil)) a_nil)))))))
    (s_one (s_ret (d_and (d_isX (sub := fun n : Str => decide (n = "NotPossible")) Z.is_NotPossible rfl Z.z_isinstance Z.n_NotPossible rfl (d_v (mn rfl) (pv 4))) (d_and (d_isB (T := "RuntimeError") (sub := (fun n : Str => decide (n ∈ (["NotPossible"] : List Str)))) Z.ib_RuntimeError rfl Z.z_isinstance (pe_ty (T := "RuntimeError") rfl Z.z_RuntimeError (by decide +kernel)) (d_v (mn rfl) (pv 4))) (d_one (d_cmp (op_eqP hu) sem_eq (d_w (d_callB (call_repr cm) sem_repr (by rfl) Z.z_repr (by decide +kernel) (w_cons (d_w (d_fld (ns := ["InvalidWalk", "NotPossible"]) (nm := "index") Z.xf Z.ff_index (d_v (mn rfl) (pv 4)))) w_nil))) (d_w d_str) (nomark _)))))))))
end
end My
end
section
set_option Elab.async false
set_option linter.all false
set_option maxRecDepth 100000
set_option maxHeartbeats 4000000
namespace My
open PySem PySem.Spec PyProof.Rows L2 XK EV
noncomputable section
variable {P : Program} {w : World} {K : PySem.W.Frag} {mg : Str → Option Value} {base : Heap}
abbrev N__law_badge_right : List Str := ["draw", "table", "row", "letters", "letter", "size", "odd", "caught"]
theorem sc__law_badge_right : FnScope N__law_badge_right ["draw", "table", "row"] (defScope S__law_badge_right) := ⟨rfl, rfl, rfl, by decide +kernel, rfl, by decide +kernel, by decide +kernel⟩
def m__law_badge_right : Sm := (mSeq (mSet 3 ((eJoin "" ((eLc [4, 5] (iOf (vr 1)) (gT 2 (gsCons (gN 4) (gsCons (gN 5) gsNil))) (noIf) (vr 4))))))
  (mSeq (mSet 6 ((eBin vIx ((eLst (aCons (kS "") (aCons (kS "A") (aCons (kS "zz") (aCons (kI 0) (aCons (kB true) (aCons ((eTup (aCons (kS "a") aNil))) (aCons ((eLst (aCons (kS "a") aNil))) (aCons ((eBin vAdd (vr 3) (kS "y"))) aNil)))))))))) ((eDraw nextF (aCons (kI 8) aNil))))))
  (mSeq (mSet 7 ((eLam s__law_raised [] ((eCallK 2 1 [0] s_ring_steps_of (aCons (vr 1) (aCons (vr 2) aNil)) (aCons (vr 6) aNil))))))
  (mRet ((eAnd ((eIsX (fun n : Str => decide (n = "InvalidBadge")) (vr 7))) ((eAnd ((eIsX (fun n : Str => decide (n ∈ (["InvalidRoster", "InvalidPeople", "InvalidBadge", "InvalidWalk"] : List Str))) (vr 7))) ((eBin eqG ((eB vRepr (aCons ((eFld ["InvalidBadge"] "badge" (vr 7))) aNil))) ((eB vRepr (aCons (vr 6) aNil)))))))))))))
def s__law_badge_right : List Val → T Val := runD 2 (N__law_badge_right).length m__law_badge_right
theorem gd__law_badge_right {a0 a1 : Val} {n : Nat} {Q : Val → Nat → Prop} {E : Err → Nat → Prop} (h : Al (m__law_badge_right [none, some a0, some a1, none, none, none, none, none]) n (outD Q E) E) : Al (s__law_badge_right [a0, a1]) n Q E := al_run (ds := [a0, a1]) (np := 2) (N := (N__law_badge_right).length) (m := m__law_badge_right) (e := [none, some a0, some a1, none, none, none, none, none]) rfl rfl h
theorem ok__law_badge_right (Z : Wd K mg base) : FnG P w K mg base 13 Z.f__law_badge_right Z.d__law_badge_right ["draw", "table", "row"] (spD K Z.cl Z.tb s__law_badge_right) :=
  def_dC (N := N__law_badge_right) (m := m__law_badge_right) [] 2 Z.F__law_badge_right sc__law_badge_right rfl (by decide) fun cdv A fr s H S p cc E hcd cm =>
    have hu := cm.room.units
    (s_cons (s_set (i := 3) sc__law_badge_right.nd rfl (by first | exact Or.inl rfl | exact Or.inr rfl) (mn rfl) (Or.inr (nei rfl)) (d_join rfl pe_str (d_w (d_sh (d_lcN (own := [("letter", 4), ("size", 5)]) rfl sc__law_badge_right.nd (i_c (i_of rfl (d_v (mn rfl) (pv 1)))) (blkOk_by (N := N__law_badge_right) (sc := defScope S__law_badge_right) (by decide +kernel)) (ma rfl) (Or.inr (mn rfl)) (fun _ _ _ _ _ => (g_tup rfl rfl (gs_cons (g_name (vs := [4, 5]) (mi rfl) sc__law_badge_right.nd rfl (by first | exact Or.inl rfl | exact Or.inr rfl) (mn rfl) (Or.inr (nei rfl))) (gs_cons (g_name (vs := [4, 5]) (mi rfl) sc__law_badge_right.nd rfl (by first | exact Or.inl rfl | exact Or.inr rfl) (mn rfl) (Or.inr (nei rfl))) gs_nil)))) (fun _ _ _ _ _ => ts_nil) (fun _ _ _ _ _ => (d_v (mn rfl) (pv 4))))))))
    (s_cons (s_set (i := 6) sc__law_badge_right.nd rfl (by first | exact Or.inl rfl | exact Or.inr rfl) (mn rfl) (Or.inr (nei rfl)) (d_ix rfl (d_w (d_sh (d_lstN (a_cons d_str (a_cons d_str (a_cons d_str (a_cons d_int (a_cons d_bl (a_cons (d_tup (a_cons d_str a_nil)) (a_cons (d_sh (d_lstN (a_cons d_str a_nil))) (a_cons (d_add rfl (d_w (d_v (mn rfl) (pv 3))) (d_w d_str)) a_nil))))))))))) (d_w (d_draw (F := nextF) rfl (pv 0) (ok__law_next Z) (cm.mono (by decide)) rfl Z.n__law_next Z.F__law_next.kp Z.b__law_next (a_cons d_int a_nil))) (fun _ _ => rfl)))
    (s_cons (s_set (i := 7) sc__law_badge_right.nd rfl (by first | exact Or.inl rfl | exact Or.inr rfl) (mn rfl) (Or.inr (nei rfl)) (d_lamF (k := 10) (F := s__law_raised) rfl Z.n__law_raised Z.F__law_raised Z.b__law_raised sc__law_raised rfl (.inl rfl) (fun cdv q => gv__law_raised Z rfl rfl rfl rfl rfl (by decide) cdv q) Z.tb__law_badge_right (hcd.symm.trans Z.dc__law_badge_right) Z.t__law_badge_right Z.u__law_badge_right cm rfl (LamX.lamS_by (sc := defScope S__law_badge_right) (by decide +kernel)) rfl (fun _ _ _ _ _ => rfl) (fun A outer s H H0 S0 E f d cm => have hu := cm.room.units; (d_callK (i := 2) (j := 1) (ix := [0]) (ok_ring_steps_of Z) cm rfl Z.n_ring_steps_of Z.F_ring_steps_of.kp Z.kb_ring_steps_of_2_badge (fun σ => passAt (takes_of rfl rfl rfl rfl) σ) (a_cons (d_v (mn rfl) (pv 1)) (a_cons (d_v (mn rfl) (pv 2)) a_nil)) (k_cons (d_v (mn rfl) (pv 6)) k_nil)))))
    (s_one (s_ret (d_and (d_isX (sub := fun n : Str => decide (n = "InvalidBadge")) Z.is_InvalidBadge rfl Z.z_isinstance Z.n_InvalidBadge rfl (d_v (mn rfl) (pv 7))) (d_and (d_isB (T := "ValueError") (sub := (fun n : Str => decide (n ∈ (["InvalidRoster", "InvalidPeople", "InvalidBadge", "InvalidWalk"] : List Str)))) Z.ib_ValueError rfl Z.z_isinstance (pe_ty (T := "ValueError") rfl Z.z_ValueError (by decide +kernel)) (d_v (mn rfl) (pv 7))) (d_one (d_cmp (op_eqP hu) sem_eq (d_w (d_callB (call_repr cm) sem_repr (by rfl) Z.z_repr (by decide +kernel) (w_cons (d_w (d_fld (ns := ["InvalidBadge"]) (nm := "badge") Z.xf Z.ff_badge (d_v (mn rfl) (pv 7)))) w_nil))) (d_w (d_callB (call_repr cm) sem_repr (by rfl) Z.z_repr (by decide +kernel) (w_cons (d_w (d_v (mn rfl) (pv 6))) w_nil))) (nomark _))))))))))
end
end My
end
section
set_option Elab.async false
set_option linter.all false
set_option maxRecDepth 100000
set_option maxHeartbeats 4000000
namespace My
open PySem PySem.Spec PyProof.Rows L2 XK EV
noncomputable section
variable {P : Program} {w : World} {K : PySem.W.Frag} {mg : Str → Option Value} {base : Heap}
abbrev N__law_right : List Str := ["table", "row", "sizes", "crews", "at", "every", "k", "due", "step", "told", "letter", "size", "own"]
theorem sc__law_right : FnScope N__law_right ["table", "row"] (defScope S__law_right) := ⟨rfl, rfl, rfl, by decide +kernel, rfl, by decide +kernel, by decide +kernel⟩
def m__law_right : Sm := (mSeq (mSet 2 ((eDict (vr 0))))
  (mSeq (mSet 3 ((eB vTuple (aCons ((eLc [4] (iRng (aCons ((eB vLen (aCons (vr 1) aNil))) aNil)) (gN 4) ((tst (eBin vGt ((eCall s__law_crew (aCons (vr 2) (aCons (vr 1) (aCons (vr 4) aNil))))) (kI 0)))) (vr 4))) aNil))))
  (mSeq (mSet 5 (eLc [6] (iRng (aCons (kI 24) aNil)) (gN 6) (noIf) ((eTup (aCons ((eBin vDiv (vr 6) (kI 2))) (aCons ((eBin vSub ((eBin vMulA (kI 2) ((eBin vMod (vr 6) (kI 2))))) (kI 1))) aNil))))))
  (mSeq (mSet 7 ((eB vTuple (aCons ((eLc [8] (iOf (vr 5)) (gN 8) ((tst (eBin neG ((eCall s__law_moved (aCons (vr 2) (aCons (vr 1) (aCons (vr 8) aNil))))) (kS "")))) (vr 8))) aNil))))
  (mSeq (mSet 9 ((eLst (aCons ((eCall s_ring_crews_at (aCons (vr 0) (aCons (vr 1) aNil)))) (aCons ((eCallK 0 2 [1, 0] s_ring_crews_at aNil (aCons (vr 1) (aCons (vr 0) aNil)))) aNil)))))
  (mSeq (mSet 9 ((eBin vAdd (vr 9) ((eLst (aCons ((eCallD [.non] s_ring_steps_of (aCons (vr 0) (aCons (vr 1) aNil)))) (aCons ((eCallK 0 3 [2, 1, 0] s_ring_steps_of aNil (aCons (kN) (aCons (vr 1) (aCons (vr 0) aNil))))) aNil)))))))
  (mSeq (mIf ((tst (eBin neG ((eB vRepr (aCons (vr 9) aNil))) ((eB vRepr (aCons ((eLst (aCons (vr 3) (aCons (vr 3) (aCons (vr 7) (aCons (vr 7) aNil)))))) aNil)))))) (mRet (kB false)) mNil)
  (mSeq (mFor (gT 2 (gsCons (gN 10) (gsCons (gN 11) gsNil))) (iOf (vr 0)) (mSeq (mSet 12 ((eB vTuple (aCons ((eLc [8] (iOf (vr 7)) (gN 8) ((tst (eBin eqG ((eBin vIx (vr 1) ((eBin vIx (vr 8) (kI 0))))) (vr 10)))) (vr 8))) aNil))))
  (mIf ((tst (eBin neG ((eB vRepr (aCons ((eCallK 2 1 [0] s_ring_steps_of (aCons (vr 0) (aCons (vr 1) aNil)) (aCons (vr 10) aNil))) aNil))) ((eB vRepr (aCons (vr 12) aNil)))))) (mRet (kB false)) mNil)))
  (mRet ((eBin eqG ((eLc [8] (iOf (vr 5)) (gN 8) ((tNo ((tru ((eCall s__law_step_right (aCons (vr 0) (aCons (vr 1) (aCons (vr 8) (aCons ((eCall s__law_moved (aCons (vr 2) (aCons (vr 1) (aCons (vr 8) aNil))))) aNil)))))))))) (vr 8))) ((eLst aNil)))))))))))))
def s__law_right : List Val → R := runP (["table", "row"] : List Str).length (N__law_right).length m__law_right
theorem go__law_right {a0 a1 d : Val} (h : Al (m__law_right [some a0, some a1, none, none, none, none, none, none, none, none, none, none, none]) 0 (isRt d) (fun _ _ => False)) : s__law_right [a0, a1] = .ret d := go_run (ds := [a0, a1]) (np := (["table", "row"] : List Str).length) (N := (N__law_right).length) (m := m__law_right) (e := [some a0, some a1, none, none, none, none, none, none, none, none, none, none, none]) rfl rfl h
theorem ge__law_right {a0 a1 : Val} {x : Err} (h : Al (m__law_right [some a0, some a1, none, none, none, none, none, none, none, none, none, none, none]) 0 (isEx x) (fun e _ => e = x)) : s__law_right [a0, a1] = .err x := ge_run (ds := [a0, a1]) (np := (["table", "row"] : List Str).length) (N := (N__law_right).length) (m := m__law_right) (e := [some a0, some a1, none, none, none, none, none, none, none, none, none, none, none]) rfl rfl h
theorem ok__law_right (Z : Wd K mg base) : FnG P w K mg base 14 Z.f__law_right Z.d__law_right ["table", "row"] (spP K Z.cl Z.tb s__law_right) :=
  def_pC (N := N__law_right) (m := m__law_right) [] Z.F__law_right sc__law_right (by decide) fun cdv A fr s H S E hcd cm =>
    have hu := cm.room.units
    (s_cons (s_set (i := 2) sc__law_right.nd rfl (by first | exact Or.inl rfl | exact Or.inr rfl) (mn rfl) (Or.inl rfl) (d_sh (d_dictN rfl rfl rfl Z.z_dict (d_v (mn rfl) (pv 0)))))
    (s_cons (s_set (i := 3) sc__law_right.nd rfl (by first | exact Or.inl rfl | exact Or.inr rfl) (mn rfl) (Or.inl rfl) (d_callTy call_tupleP sem_tuple (by rfl) Z.z_tuple (by decide +kernel) (w_cons (d_w (d_sh (d_lcN (own := [("at", 4)]) rfl sc__law_right.nd (i_c (i_range1 rfl Z.z_range (w_cons (d_w (d_callB call_lenA sem_len (by rfl) Z.z_len PySem.boot_len (w_cons (d_w (d_v (mn rfl) (pv 1))) w_nil))) w_nil))) (blkOk_by (N := N__law_right) (sc := defScope S__law_right) (by decide +kernel)) (ma rfl) (Or.inl rfl) (fun _ _ _ _ _ => (g_name (vs := [4]) (mi rfl) sc__law_right.nd rfl (by first | exact Or.inl rfl | exact Or.inr rfl) (mn rfl) (Or.inl rfl))) (fun _ _ _ _ _ => (ts_one (t_cmp op_gtA sem_gt (d_w (d_call (ok__law_crew Z) (cm.mono (by decide)) rfl Z.n__law_crew Z.F__law_crew.kp Z.b__law_crew quiets (a_cons (d_v (mn rfl) (pv 2)) (a_cons (d_v (mn rfl) (pv 1)) (a_cons (d_v (mn rfl) (pv 4)) a_nil))))) (d_w d_int) (nomark _)))) (fun _ _ _ _ _ => (d_v (mn rfl) (pv 4)))))) w_nil)))
    (s_cons (s_setLc (own := [("k", 6)]) (mn rfl) (Or.inl rfl) rfl sc__law_right.nd rfl rfl (sw_true rfl rfl rfl (by decide +kernel)) (i_c (i_range1 rfl Z.z_range (w_cons (d_w d_int) w_nil))) (blkOk_by (N := N__law_right) (sc := defScope S__law_right) (by decide +kernel)) (ma rfl) (Or.inl rfl) (fun _ _ _ _ _ => (g_name (vs := [6]) (mi rfl) sc__law_right.nd rfl (by first | exact Or.inl rfl | exact Or.inr rfl) (mn rfl) (Or.inl rfl))) (fun _ _ _ _ _ => ts_nil) (fun _ _ _ _ _ => (d_tup (a_cons (d_div (d_w (d_v (mn rfl) (pv 6))) (d_w d_int)) (a_cons (d_sub (d_w (d_mul (d_w d_int) (d_w (d_mod (d_w (d_v (mn rfl) (pv 6))) (d_w d_int))))) (d_w d_int)) a_nil)))))
    (s_cons (s_set (i := 7) sc__law_right.nd rfl (by first | exact Or.inl rfl | exact Or.inr rfl) (mn rfl) (Or.inl rfl) (d_callTy call_tupleP sem_tuple (by rfl) Z.z_tuple (by decide +kernel) (w_cons (d_w (d_sh (d_lcN (own := [("step", 8)]) rfl sc__law_right.nd (i_c (i_of rfl (d_v (mn rfl) (pv 5)))) (blkOk_by (N := N__law_right) (sc := defScope S__law_right) (by decide +kernel)) (ma rfl) (Or.inl rfl) (fun _ _ _ _ _ => (g_name (vs := [8]) (mi rfl) sc__law_right.nd rfl (by first | exact Or.inl rfl | exact Or.inr rfl) (mn rfl) (Or.inl rfl))) (fun _ _ _ _ _ => (ts_one (t_cmp (op_neP hu) sem_ne (d_w (d_call (ok__law_moved Z) (cm.mono (by decide)) rfl Z.n__law_moved Z.F__law_moved.kp Z.b__law_moved quiets (a_cons (d_v (mn rfl) (pv 2)) (a_cons (d_v (mn rfl) (pv 1)) (a_cons (d_v (mn rfl) (pv 8)) a_nil))))) (d_w d_str) (nomark _)))) (fun _ _ _ _ _ => (d_v (mn rfl) (pv 8)))))) w_nil)))
    (s_cons (s_set (i := 9) sc__law_right.nd rfl (by first | exact Or.inl rfl | exact Or.inr rfl) (mn rfl) (Or.inl rfl) (d_sh (d_lstN (a_cons (d_call (ok_ring_crews_at Z) (cm.mono (by decide)) rfl Z.n_ring_crews_at Z.F_ring_crews_at.kp Z.b_ring_crews_at (fun σ => passAt (takes_of rfl rfl rfl rfl) σ) (a_cons (d_v (mn rfl) (pv 0)) (a_cons (d_v (mn rfl) (pv 1)) a_nil))) (a_cons (d_callK0 (i := 0) (j := 2) (ix := [1, 0]) (ok_ring_crews_at Z) (cm.mono (by decide)) rfl Z.n_ring_crews_at Z.F_ring_crews_at.kp Z.kb_ring_crews_at_0_ring_roster (fun σ => passAt (takes_of rfl rfl rfl rfl) σ) (k_cons (d_v (mn rfl) (pv 1)) (k_cons (d_v (mn rfl) (pv 0)) k_nil))) a_nil)))))
    (s_cons (s_set (i := 9) sc__law_right.nd rfl (by first | exact Or.inl rfl | exact Or.inr rfl) (mn rfl) (Or.inl rfl) (d_add rfl (d_w (d_v (mn rfl) (pv 9))) (d_w (d_sh (d_lstN (a_cons (d_callD (des := [.non]) (fun _ => .cons .non .nil) (ok_ring_steps_of Z) (cm.mono (by decide)) rfl Z.n_ring_steps_of Z.F_ring_steps_of.kp Z.bd_ring_steps_of.choose_spec.2 Z.bd_ring_steps_of.choose_spec.1 (fun σ => passAt (takes_of rfl rfl rfl rfl) σ) (a_cons (d_v (mn rfl) (pv 0)) (a_cons (d_v (mn rfl) (pv 1)) a_nil))) (a_cons (d_callK0 (i := 0) (j := 3) (ix := [2, 1, 0]) (ok_ring_steps_of Z) (cm.mono (by decide)) rfl Z.n_ring_steps_of Z.F_ring_steps_of.kp Z.kb_ring_steps_of_0_badge_ring_roster (fun σ => passAt (takes_of rfl rfl rfl rfl) σ) (k_cons d_non (k_cons (d_v (mn rfl) (pv 1)) (k_cons (d_v (mn rfl) (pv 0)) k_nil)))) a_nil)))))))
    (s_cons (s_if (t_cmp (op_neP hu) sem_ne (d_w (d_callB (call_repr cm) sem_repr (by rfl) Z.z_repr (by decide +kernel) (w_cons (d_w (d_v (mn rfl) (pv 9))) w_nil))) (d_w (d_callB (call_repr cm) sem_repr (by rfl) Z.z_repr (by decide +kernel) (w_cons (d_w (d_sh (d_lstN (a_cons (d_v (mn rfl) (pv 3)) (a_cons (d_v (mn rfl) (pv 3)) (a_cons (d_v (mn rfl) (pv 7)) (a_cons (d_v (mn rfl) (pv 7)) a_nil))))))) w_nil))) (nomark _))
    (s_one (s_ret d_bl))
    s_nil)
    (s_cons (s_for (passes_of rfl) rfl (i_of rfl (d_v (mn rfl) (pv 0))) (g_tup rfl rfl (gs_cons (g_name (vs := [10, 11]) (mi rfl) sc__law_right.nd rfl (by first | exact Or.inl rfl | exact Or.inr rfl) (mn rfl) (Or.inl rfl)) (gs_cons (g_name (vs := [10, 11]) (mi rfl) sc__law_right.nd rfl (by first | exact Or.inl rfl | exact Or.inr rfl) (mn rfl) (Or.inl rfl)) gs_nil)))
    (s_cons (s_set (i := 12) sc__law_right.nd rfl (by first | exact Or.inl rfl | exact Or.inr rfl) (mn rfl) (Or.inl rfl) (d_callTy call_tupleP sem_tuple (by rfl) Z.z_tuple (by decide +kernel) (w_cons (d_w (d_sh (d_lcN (own := [("step", 8)]) rfl sc__law_right.nd (i_c (i_of rfl (d_v (mn rfl) (pv 7)))) (blkOk_by (N := N__law_right) (sc := defScope S__law_right) (by decide +kernel)) (ma rfl) (Or.inl rfl) (fun _ _ _ _ _ => (g_name (vs := [8]) (mi rfl) sc__law_right.nd rfl (by first | exact Or.inl rfl | exact Or.inr rfl) (mn rfl) (Or.inl rfl))) (fun _ _ _ _ _ => (ts_one (t_cmp (op_eqP hu) sem_eq (d_w (d_ix rfl (d_w (d_v (mn rfl) (pv 1))) (d_w (d_ix rfl (d_w (d_v (mn rfl) (pv 8))) (d_w d_int) (fun _ _ => rfl))) (fun _ _ => rfl))) (d_w (d_v (mn rfl) (pv 10))) (nomark _)))) (fun _ _ _ _ _ => (d_v (mn rfl) (pv 8)))))) w_nil)))
    (s_one (s_if (t_cmp (op_neP hu) sem_ne (d_w (d_callB (call_repr cm) sem_repr (by rfl) Z.z_repr (by decide +kernel) (w_cons (d_w (d_callK (i := 2) (j := 1) (ix := [0]) (ok_ring_steps_of Z) (cm.mono (by decide)) rfl Z.n_ring_steps_of Z.F_ring_steps_of.kp Z.kb_ring_steps_of_2_badge (fun σ => passAt (takes_of rfl rfl rfl rfl) σ) (a_cons (d_v (mn rfl) (pv 0)) (a_cons (d_v (mn rfl) (pv 1)) a_nil)) (k_cons (d_v (mn rfl) (pv 10)) k_nil))) w_nil))) (d_w (d_callB (call_repr cm) sem_repr (by rfl) Z.z_repr (by decide +kernel) (w_cons (d_w (d_v (mn rfl) (pv 12))) w_nil))) (nomark _))
    (s_one (s_ret d_bl))
    s_nil))))
    (s_one (s_ret (d_cmp (op_eqP hu) sem_eq (d_w (d_sh (d_lcN (own := [("step", 8)]) rfl sc__law_right.nd (i_c (i_of rfl (d_v (mn rfl) (pv 5)))) (blkOk_by (N := N__law_right) (sc := defScope S__law_right) (by decide +kernel)) (ma rfl) (Or.inl rfl) (fun _ _ _ _ _ => (g_name (vs := [8]) (mi rfl) sc__law_right.nd rfl (by first | exact Or.inl rfl | exact Or.inr rfl) (mn rfl) (Or.inl rfl))) (fun _ _ _ _ _ => (ts_one (t_not (t_tru rfl (d_w (d_call (ok__law_step_right Z) cm rfl Z.n__law_step_right Z.F__law_step_right.kp Z.b__law_step_right quiets (a_cons (d_v (mn rfl) (pv 0)) (a_cons (d_v (mn rfl) (pv 1)) (a_cons (d_v (mn rfl) (pv 8)) (a_cons (d_call (ok__law_moved Z) (cm.mono (by decide)) rfl Z.n__law_moved Z.F__law_moved.kp Z.b__law_moved quiets (a_cons (d_v (mn rfl) (pv 2)) (a_cons (d_v (mn rfl) (pv 1)) (a_cons (d_v (mn rfl) (pv 8)) a_nil)))) a_nil)))))))))) (fun _ _ _ _ _ => (d_v (mn rfl) (pv 8)))))) (d_w (d_sh (d_lstN a_nil))) (nomark _))))))))))))
end
end My
end
section
set_option Elab.async false
set_option linter.all false
set_option maxRecDepth 100000
set_option maxHeartbeats 4000000
namespace My
open PySem PySem.Spec PyProof.Rows L2 XK EV
noncomputable section
variable {P : Program} {w : World} {K : PySem.W.Frag} {mg : Str → Option Value} {base : Heap}
abbrev N_law : List Str := ["script", "draw", "turn", "table", "row"]
theorem sc_law : FnScope N_law ["script"] (defScope S_law) := ⟨rfl, rfl, rfl, by decide +kernel, rfl, by decide +kernel, by decide +kernel⟩
def m_law : Sm := (mSeq (mFor (gN 2) (iRng (aCons ((eB vMin (aCons (kI 12) (aCons ((eBin vAdd (kI 4) ((eB vLen (aCons (vr 0) aNil))))) aNil)))) aNil)) (mSeq (mSet 3 ((eDraw s__law_roster aNil)))
  (mSeq (mSet 4 ((eDraw s__law_circle (aCons (vr 3) (aCons ((eBin vIx ((eLst (aCons (kI 3) (aCons (kI 6) (aCons (kI 12) aNil))))) ((eDraw nextF (aCons (kI 3) aNil))))) aNil)))))
  (mIf ((tSome ((tNo ((tru ((eCall s__law_right (aCons (vr 3) (aCons (vr 4) aNil)))))))) ((tNo ((tru ((eDraw s__law_badge_right (aCons (vr 3) (aCons (vr 4) aNil)))))))))) (mRet (kB false)) mNil))))
  (mRet (kB true)))
theorem ok_law (Z : Wd K mg base) (n : Nat) (hn : n ≤ 999999000) (hm : ∀ ns : List Int, ns.length ≤ 63 → All (m_law (envL N_law.length ns)) n (fun o _ => o = .rt (.bl true)) (fun _ _ => False)) :
    FnG P w K mg base 15 Z.f_law Z.d_law ["script"] (spLaw K Z.tb) :=
  law_ok (N := N_law) (m := m_law) (cl := Z.cl) (dsl := 1) [] Z.F_law sc_law (by decide) (by decide) rfl (by first | exact Or.inl rfl | exact Or.inr rfl) (by decide) (fun _ _ _ _ _ _ => by first | exact .inl rfl | exact .inr rfl) (fun _ _ _ _ _ _ => pv 0) rfl (ok__law_begin Z) Z.n__law_begin Z.F__law_begin.kp Z.b__law_begin (fun _ _ _ _ _ _ => rfl) (fun _ => rfl) (fun _ => rfl) (fun _ => rfl)
    (fun cdv A fr s H H0 S0 p cc E cm =>
    have hu := cm.room.units
    (s_cons (s_for (passes_of rfl) rfl (i_range1 rfl Z.z_range (w_cons (d_w (d_callB (call_min2 rfl) sem_min (by rfl) Z.z_min (by decide +kernel) (w_cons (d_w d_int) (w_cons (d_w (d_add rfl (d_w d_int) (d_w (d_callB call_lenA sem_len (by rfl) Z.z_len PySem.boot_len (w_cons (d_w (d_v (mn rfl) (pv 0))) w_nil))))) w_nil)))) w_nil)) (g_name (vs := [2]) (mi rfl) sc_law.nd rfl (by first | exact Or.inl rfl | exact Or.inr rfl) (mn rfl) (Or.inr (nei rfl)))
    (s_cons (s_set (i := 3) sc_law.nd rfl (by first | exact Or.inl rfl | exact Or.inr rfl) (mn rfl) (Or.inr (nei rfl)) (d_draw (F := s__law_roster) rfl (pv 1) (ok__law_roster Z) (cm.mono (by decide)) rfl Z.n__law_roster Z.F__law_roster.kp Z.b__law_roster a_nil))
    (s_cons (s_set (i := 4) sc_law.nd rfl (by first | exact Or.inl rfl | exact Or.inr rfl) (mn rfl) (Or.inr (nei rfl)) (d_draw (F := s__law_circle) rfl (pv 1) (ok__law_circle Z) (cm.mono (by decide)) rfl Z.n__law_circle Z.F__law_circle.kp Z.b__law_circle (a_cons (d_v (mn rfl) (pv 3)) (a_cons (d_ix rfl (d_w (d_sh (d_lstN (a_cons d_int (a_cons d_int (a_cons d_int a_nil)))))) (d_w (d_draw (F := nextF) rfl (pv 1) (ok__law_next Z) (cm.mono (by decide)) rfl Z.n__law_next Z.F__law_next.kp Z.b__law_next (a_cons d_int a_nil))) (fun _ _ => rfl)) a_nil))))
    (s_one (s_if (PW.pt (w_or (t_not (t_tru rfl (d_w (d_call (ok__law_right Z) cm rfl Z.n__law_right Z.F__law_right.kp Z.b__law_right quiets (a_cons (d_v (mn rfl) (pv 3)) (a_cons (d_v (mn rfl) (pv 4)) a_nil)))))) (w_or1 (t_not (t_tru rfl (d_w (d_draw (F := s__law_badge_right) rfl (pv 1) (ok__law_badge_right Z) (cm.mono (by decide)) rfl Z.n__law_badge_right Z.F__law_badge_right.kp Z.b__law_badge_right (a_cons (d_v (mn rfl) (pv 3)) (a_cons (d_v (mn rfl) (pv 4)) a_nil)))))))))
    (s_one (s_ret d_bl))
    s_nil)))))
    (s_one (s_ret d_bl)))) (by decide) hn hm
end
end My
end
section
set_option Elab.async false
set_option linter.all false
set_option maxRecDepth 100000
set_option maxHeartbeats 4000000
/-! Steps for lambdas. -/
namespace EV
open PySem PySem.Spec PyProof.Rows L2 XK
section
variable {η : Env} {n : Nat} {Q : Val → Nat → Prop} {E : Err → Nat → Prop} {f : Ev}
theorem runT_ret {t : T Val} {d : Val} (h : Al t 0 (fun v _ => v = d) (fun _ _ => False)) : runT t = .ret d := by
  have z := of_al h
  cases t with
  | ret a => exact congrArg R.ret z
  | err e => exact (show False from z).elim
  | draw b k => obtain ⟨m, e, _⟩ := z; cases e
  | bad => exact (show False from z).elim
theorem runT_err {t : T Val} {x : Err} (h : Al t 0 (fun _ _ => False) (fun e _ => e = x)) : runT t = .err x := by
  have z := of_al h
  cases t with
  | ret a => exact (show False from z).elim
  | err e => exact congrArg R.err z
  | draw b k => obtain ⟨m, e, _⟩ := z; cases e
  | bad => exact (show False from z).elim
theorem u_lam {F : R → R} {ow : List Nat} {th : R} {d : Val} (hb : runT (f (maskE η ow)) = th) (hF : F th = .ret d) (q : Q d n) : Al (eLam F ow f η) n Q E := by
  refine al_of ?_
  unfold eLam
  rw [hb, hF]
  exact q
theorem u_thk {a : Addr} {th : R} [g : GetE η 0 (.fn a)] (h : Al (ofR th) n Q E) : Al (eThk a th η) n Q E := by
  have e : eThk a th η = ofR th := by
    unfold eThk
    have : (η[0]? : Option (Option Val)) = some (some (Val.fn a)) := by
      have := g.get
      cases z : (η[0]? : Option (Option Val)) with
      | none => rw [z] at this; cases this
      | some o => rw [z] at this; cases o with
        | none => cases this
        | some w => cases this; rfl
    rw [this]
    exact if_pos rfl
  rw [e]
  exact h
instance wu_thk {a : Addr} {th : R} [g : GetE η 0 (.fn a)] : WP (Al (eThk a th η) n Q E) (Al (ofR th) n Q E) := ⟨u_thk⟩
end
end EV
end
section
set_option Elab.async false
set_option linter.all false
set_option maxRecDepth 100000
set_option maxHeartbeats 4000000
namespace My
open PySem PySem.Spec PyProof.Rows L2 XK EV
local macro_rules | `(tactic| walk_at "ev") => `(tactic| repeat (with_reducible refine WP.imp ?_))
local macro_rules | `(tactic| walk_at "ex") => `(tactic| (first | refine gx ?_ | refine ⟨_, rfl, ?_⟩))
local macro_rules | `(tactic| walk_at "go") => `(tactic| repeat (first | with_reducible refine WP.imp ?_ | refine gx ?_ | refine ⟨_, rfl, ?_⟩))
local macro_rules | `(tactic| walk_at "s") => `(tactic| first
  | with_reducible refine u_ifP ?_
  | with_reducible refine WP.imp ?_
  | refine ⟨_, fun _ => ?_, fun h => (Bool.false_ne_true h.symm).elim, fun _ _ t => t⟩
  | refine ⟨_, fun h => (Bool.false_ne_true h).elim, fun _ => ?_, fun _ _ t => t⟩
  | refine gx ?_
  | refine ⟨_, eqG_int _ _, ?_⟩
  | refine ⟨_, neG_int _ _, ?_⟩
  | refine ⟨_, eqG_txt _ _, ?_⟩
  | refine ⟨_, neG_txt _ _, ?_⟩
  | refine ⟨_, eqG_txt _ [], ?_⟩
  | refine ⟨_, neG_txt _ [], ?_⟩
  | refine ⟨_, vLen_txt (by omega), ?_⟩
  | refine ⟨_, vIx_tup 0 rfl rfl, ?_⟩
  | refine ⟨_, vIx_tup 1 rfl rfl, ?_⟩
  | refine ⟨_, vIx_tup 2 rfl rfl, ?_⟩
  | refine ⟨_, rfl, ?_⟩
  | refine And.intro (fun _ => ?_) (fun h => (Bool.false_ne_true h.symm).elim)
  | refine And.intro (fun h => (Bool.false_ne_true h).elim) (fun _ => ?_)
  | refine And.intro (fun _ => ?_) (fun h => (Bool.false_ne_true h).elim)
  | refine And.intro (fun h => (Bool.false_ne_true h.symm).elim) (fun _ => ?_)
  | refine And.intro (Nat.le_of_ble_eq_true rfl : _ ≤ 1000) ?_
  | refine And.intro (Nat.le_of_ble_eq_true rfl : _ ≤ 1000000) ?_
  | refine And.intro (by omega) ?_
  | refine And.intro (fun _ => ?_) (fun h => by exfalso; simp only [Bool.not_eq_true', Bool.not_eq_false', decide_eq_true_eq, decide_eq_false_iff_not] at h; omega)
  | refine And.intro (fun h => by exfalso; simp only [Bool.not_eq_true', Bool.not_eq_false', decide_eq_true_eq, decide_eq_false_iff_not] at h; omega) (fun _ => ?_))
local macro_rules | `(tactic| walk_at "w") => `(tactic| repeat (walk_at "s"))
theorem r_is_int (i : Int) : s_is_int [.int i] = .ret (.bl true) := by rfl
theorem r_is_size {i : Nat} (h : i ≤ 5) : s__is_size [.int (i : Nat)] = .ret (.bl true) := by
  refine go__is_size ?_
  unfold m__is_size
  walk_at "ev"
  refine u_ret (r_is_int _) ?_
  walk_at "ev"
  refine ⟨true, rfl, fun _ => ?_, fun h => nomatch h⟩
  walk_at "ev"
  refine ⟨true, ?_, fun _ => ?_, fun h => nomatch h⟩
  · walk_at "ev"
    show some (Val.bl (decide ((0 : Int) ≤ ((i : Nat) : Int)))) = _
    rw [decide_eq_true (by omega)]
  walk_at "ev"
  refine ⟨.bl true, ?_, rfl⟩
  walk_at "ev"
  show some (Val.bl (decide (((i : Nat) : Int) ≤ 5))) = _
  rw [decide_eq_true (by omega)]
/-- one sign of the small letters -/
def lowC (k : Nat) : Prop := 97 ≤ k ∧ k ≤ 122
theorem r_is_badge {k : Nat} (h : lowC k) : s__is_badge [.str (txtOf [k])] = .ret (.bl true) := by
  refine go__is_badge ?_
  unfold m__is_badge
  walk_at "ev"
  refine ⟨true, rfl, ?_⟩
  walk_at "ev"
  refine ⟨true, rfl, fun _ => ?_, fun h => nomatch h⟩
  walk_at "ev"
  walk_at "ex"
  walk_at "ev"
  walk_at "ex"
  walk_at "ev"
  refine ⟨true, rfl, fun _ => ?_, fun h => nomatch h⟩
  walk_at "ev"
  have h1 : ¬ ((txtOf [k]).cps.toList < ("a" : Str).cps.toList) := by
    walk_at "ev"
    show ¬ ([k] < [97])
    rw [List.cons_lt_cons_iff]
    have := h.1
    simp
    omega
  have h2 : ¬ (("z" : Str).cps.toList < (txtOf [k]).cps.toList) := by
    walk_at "ev"
    show ¬ ([122] < [k])
    rw [List.cons_lt_cons_iff]
    have := h.2
    simp
    omega
  walk_at "ev"
  refine ⟨true, ?_, fun _ => ?_, fun h => nomatch h⟩
  · walk_at "ev"
    show some (Val.bl (!decide _)) = _
    rw [decide_eq_false h1]
    walk_at "ev"
    rfl
  · walk_at "ev"
    refine ⟨.bl true, ?_, rfl⟩
    walk_at "ev"
    show some (Val.bl (!decide _)) = _
    rw [decide_eq_false h2]
    walk_at "ev"
    rfl
abbrev Ros := List (Nat × Nat)
abbrev entV (r : Nat × Nat) : Val := .tup [.str (txtOf [r.1]), .int (r.2 : Nat)]
def rosV (rs : Ros) : Val := .tup (rs.map entV)
def okB (r : Nat × Nat) : Prop := lowC r.1 ∧ r.2 ≤ 5
abbrev lnV (w : List Nat) : Val := .str (txtOf w)
theorem r_is_entry {r : Nat × Nat} (h : okB r) : s__is_entry [entV r] = .ret (.bl true) := by
  refine go__is_entry ?_
  unfold m__is_entry
  walk_at "ev"
  refine ⟨true, rfl, ?_⟩
  walk_at "ev"
  refine ⟨true, rfl, fun _ => ?_, fun h => nomatch h⟩
  walk_at "ev"
  walk_at "ex"
  walk_at "ev"
  walk_at "ex"
  walk_at "ev"
  refine ⟨true, rfl, fun _ => ?_, fun h => nomatch h⟩
  walk_at "ev"
  walk_at "ex"
  walk_at "ev"
  refine u_ret (r_is_badge h.1) ?_
  walk_at "ev"
  refine ⟨true, rfl, fun _ => ?_, fun h => nomatch h⟩
  walk_at "ev"
  walk_at "ex"
  walk_at "ev"
  exact u_ret (r_is_size h.2) rfl
theorem pairs_at {ds : List Val} {k : Nat} {d : Val} (h : (pairs ds)[k]? = some d) : ∃ e, ds[k]? = some e ∧ d = .tup [.int (k : Nat), e] := pairs_get h
theorem lt_one {a b : Nat} (h : a < b) : (txtOf [a]).cps.toList < (txtOf [b]).cps.toList := by
  walk_at "ev"
  show [a] < [b]
  rw [List.cons_lt_cons_iff]
  exact .inl h
structure okR (rs : Ros) : Prop where
  l1 : 1 ≤ rs.length
  l4 : rs.length ≤ 4
  up : rs.Pairwise (fun a b => a.1 < b.1)
  ok : ∀ r ∈ rs, okB r
def beforeV (rs : Ros) : Nat → Val
  | 0 => .str ""
  | k + 1 => match rs[k]? with | some r => .str (txtOf [r.1]) | none => .non
theorem r_check_roster {rs : Ros} (h : okR rs) : s_check_roster [rosV rs] = .ret .non := by
  refine go_check_roster ?_
  unfold m_check_roster
  walk_at "ev"
  refine ⟨true, rfl, ?_⟩
  walk_at "ev"
  refine ⟨true, rfl, ?_⟩
  walk_at "ev"
  refine ⟨fun _ => ?_, fun h => nomatch h⟩
  walk_at "ev"
  have hl : (rs.map entV).length = rs.length := List.length_map _
  walk_at "ev"
  walk_at "ex"
  rw [hl]
  walk_at "ev"
  refine ⟨true, ?_, fun _ => ?_, fun h => nomatch h⟩
  · walk_at "ev"
    show some (Val.bl (decide (1 ≤ ((rs.length : Nat) : Int)))) = _
    rw [decide_eq_true (by have := h.l1; omega)]
  walk_at "ev"
  refine ⟨.bl true, ?_, true, rfl, ?_⟩
  · walk_at "ev"
    show some (Val.bl (decide (((rs.length : Nat) : Int) ≤ 4))) = _
    rw [decide_eq_true (by have := h.l4; omega)]
  walk_at "ev"
  refine ⟨(fun h => nomatch h), fun _ => ?_⟩
  walk_at "ev"
  walk_at "ex"
  walk_at "ev"
  refine u_turns (fun k η _ => ∃ x2 x3, η = [some (rosV rs), some (beforeV rs k), x2, x3]) _ 0 _ _ ⟨none, none, rfl⟩ ?_ ?_
  · rintro k d η a hd ⟨x2, x3, rfl⟩
    obtain ⟨e, he, rfl⟩ := pairs_at hd
    rw [List.getElem?_map] at he
    obtain ⟨r, hr, rfl⟩ := Option.map_eq_some_iff.mp he
    walk_at "ev"
    walk_at "ex"
    have hm : r ∈ rs := List.mem_of_getElem? hr
    walk_at "ev"
    refine u_ret (r_is_entry (h.ok r hm)) ?_
    walk_at "ev"
    refine ⟨true, rfl, ?_⟩
    walk_at "ev"
    refine ⟨fun _ => ?_, fun h => nomatch h⟩
    walk_at "ev"
    walk_at "ex"
    rw [Nat.zero_add]
    have key : ∃ b : Str, beforeV rs k = .str b ∧ b.cps.toList < (txtOf [r.1]).cps.toList := by
      cases k with
      | zero => exact ⟨"", rfl, by show ([] : List Nat) < [r.1]; simp⟩
      | succ j =>
        have hj : j < rs.length := by have := (List.getElem?_eq_some_iff.mp hr).1; omega
        walk_at "ev"
        refine ⟨txtOf [rs[j].1], ?_, lt_one ?_⟩
        · walk_at "ev"
          show (match rs[j]? with | some r => Val.str (txtOf [r.1]) | none => .non) = _
          rw [List.getElem?_eq_getElem hj]
        · obtain ⟨hk, rfl⟩ := List.getElem?_eq_some_iff.mp hr
          exact (List.pairwise_iff_getElem.mp h.up) j (j + 1) hj hk (by omega)
    obtain ⟨b, e1, e2⟩ := key
    rw [e1]
    walk_at "ev"
    refine ⟨.bl false, ?_, false, rfl, ?_⟩
    · walk_at "ev"
      show some (Val.bl (!decide (b.cps.toList < (txtOf [r.1]).cps.toList))) = _
      rw [decide_eq_true e2]
      walk_at "ev"
      rfl
    walk_at "ev"
    refine ⟨(fun h => nomatch h), fun _ => ?_⟩
    walk_at "ev"
    walk_at "ex"
    walk_at "ev"
    refine ⟨some (.int (k : Nat)), some (entV r), ?_⟩
    rw [show k + 1 = k + 1 from rfl]
    walk_at "ev"
    show [some (rosV rs), some (Val.str (txtOf [r.1])), _, _] = [_, some (match rs[k]? with | some r => Val.str (txtOf [r.1]) | none => .non), _, _]
    rw [hr]
  · rintro η a ⟨x2, x3, rfl⟩
    walk_at "ev"
    rfl
theorem r_check_roster_nil : s_check_roster [.lst []] = .err ⟨"InvalidRoster", "entry", .non⟩ := by rfl
abbrev badges (rs : Ros) : List Nat := rs.map (·.1)
theorem r_badges_of {rs : Ros} (h : okR rs) : s_badges_of [rosV rs] = .ret (lnV (badges rs)) := by
  refine go_badges_of ?_
  unfold m_badges_of
  walk_at "ev"
  refine u_ret (r_check_roster h) ?_
  walk_at "ev"
  walk_at "ex"
  have hl : (rs.map entV).length = rs.length := List.length_map _
  walk_at "ev"
  refine ⟨by rw [hl]; have := h.l4; omega, ?_⟩
  walk_at "ev"
  refine u_lcA entV (fun r => .str (txtOf [r.1])) (fun r hr => gx ?_) ?_
  · walk_at "ev"
    exact ⟨_, rfl, rfl⟩
  · walk_at "ev"
    refine ⟨_, ?_, rfl⟩
    have := vJoin_signs (ks := badges rs) (by rw [List.length_map]; have := h.l4; omega)
    rw [List.map_map] at this
    exact this
theorem r_badges_of_nil : s_badges_of [.lst []] = .err ⟨"InvalidRoster", "entry", .non⟩ := by rfl
/-- a line of the roster -/
structure okL (rs : Ros) (w : List Nat) : Prop where
  len : w.length ≤ 12
  mem : ∀ k ∈ w, k ∈ badges rs
theorem r_check_line {rs : Ros} {w : List Nat} (h : okR rs) (hz : okL rs w) : s_check_line [rosV rs, lnV w] = .ret .non := by
  refine go_check_line ?_
  unfold m_check_line
  walk_at "ev"
  refine u_ret (r_badges_of h) ?_
  walk_at "ev"
  have hl := hz.len
  walk_at "ev"
  refine ⟨true, rfl, ?_⟩
  walk_at "ev"
  refine ⟨true, rfl, ?_⟩
  walk_at "ev"
  refine ⟨fun _ => ?_, fun h => nomatch h⟩
  walk_at "ev"
  refine ⟨_, vLen_txt (by omega), ?_⟩
  walk_at "ev"
  refine ⟨.bl false, ?_, false, rfl, ?_⟩
  · walk_at "ev"
    show some (Val.bl (decide ((12 : Int) < ((w.length : Nat) : Int)))) = _
    rw [decide_eq_false (by omega)]
  walk_at "ev"
  refine ⟨(fun h => nomatch h), fun _ => ?_⟩
  walk_at "ev"
  walk_at "ex"
  walk_at "ev"
  refine u_turns (fun k η _ => ∃ x3 x4, η = [some (rosV rs), some (lnV w), some (lnV (badges rs)), x3, x4]) _ 0 _ _ ⟨none, none, rfl⟩ ?_ ?_
  · rintro k d η a hd ⟨x3, x4, rfl⟩
    obtain ⟨e, he, rfl⟩ := pairs_at hd
    rw [List.getElem?_map] at he
    obtain ⟨r, hr, rfl⟩ := Option.map_eq_some_iff.mp he
    walk_at "ev"
    walk_at "ex"
    walk_at "ev"
    have hm : r ∈ badges rs := hz.mem r (List.mem_of_getElem? hr)
    walk_at "ev"
    refine ⟨.bl false, ?_, false, rfl, ?_⟩
    · rw [vNotIn_sign, txt_list, decide_eq_true hm]
      walk_at "ev"
      rfl
    walk_at "ev"
    refine ⟨(fun h => nomatch h), fun _ => ?_⟩
    walk_at "ev"
    exact ⟨_, _, rfl⟩
  · rintro η a ⟨x3, x4, rfl⟩
    walk_at "ev"
    rfl
/-- a wrong sign: the first one -/
theorem r_check_line_bad {rs : Ros} {a b : List Nat} {c : Nat} (h : okR rs) (ha : ∀ k ∈ a, k ∈ badges rs) (hc : c ∉ badges rs) (hl : (a ++ c :: b).length ≤ 12) : s_check_line [rosV rs, lnV (a ++ c :: b)] = .err ⟨"InvalidPeople", "place", .int (a.length : Nat)⟩ := by
  refine ge_check_line ?_
  unfold m_check_line
  walk_at "ev"
  refine u_ret (r_badges_of h) ?_
  walk_at "ev"
  refine ⟨true, rfl, ?_⟩
  walk_at "ev"
  refine ⟨true, rfl, ?_⟩
  walk_at "ev"
  refine ⟨fun _ => ?_, fun h => nomatch h⟩
  walk_at "ev"
  refine ⟨_, vLen_txt (by omega), ?_⟩
  walk_at "ev"
  refine ⟨.bl false, ?_, false, rfl, ?_⟩
  · walk_at "ev"
    show some (Val.bl (decide ((12 : Int) < (((a ++ c :: b).length : Nat) : Int)))) = _
    rw [decide_eq_false (by omega)]
  walk_at "ev"
  refine ⟨(fun h => nomatch h), fun _ => ?_⟩
  walk_at "ev"
  walk_at "ex"
  walk_at "ev"
  refine u_turns (fun k η _ => k ≤ a.length ∧ ∃ x3 x4, η = [some (rosV rs), some (lnV (a ++ c :: b)), some (lnV (badges rs)), x3, x4]) _ 0 _ _ ⟨Nat.zero_le _, none, none, rfl⟩ ?_ ?_
  · rintro k d η n hd ⟨hk, x3, x4, rfl⟩
    obtain ⟨e, he, rfl⟩ := pairs_at hd
    rw [List.getElem?_map] at he
    obtain ⟨r, hr, rfl⟩ := Option.map_eq_some_iff.mp he
    rw [Nat.zero_add] at hk
    walk_at "ev"
    walk_at "ex"
    walk_at "ev"
    have hr' : (a ++ c :: b)[k]? = some r := hr
    by_cases hka : k < a.length
    · rw [List.getElem?_append_left hka] at hr'
      have hm : r ∈ badges rs := ha r (List.mem_of_getElem? hr')
      walk_at "ev"
      refine ⟨.bl false, ?_, false, rfl, ?_⟩
      · rw [vNotIn_sign, txt_list, decide_eq_true hm]
        walk_at "ev"
        rfl
      walk_at "ev"
      refine ⟨(fun h => nomatch h), fun _ => ?_⟩
      walk_at "ev"
      exact ⟨by omega, _, _, rfl⟩
    · have e : k = a.length := by omega
      subst e
      rw [List.getElem?_append_right (Nat.le_refl _), Nat.sub_self] at hr'
      obtain rfl : c = r := by simpa using hr'
      walk_at "ev"
      refine ⟨.bl true, ?_, true, rfl, ?_⟩
      · rw [vNotIn_sign, txt_list, decide_eq_false hc]
        walk_at "ev"
        rfl
      walk_at "ev"
      refine ⟨fun _ => ?_, (fun h => nomatch h)⟩
      walk_at "ev"
      rfl
  · rintro η n ⟨hk, x3, x4, rfl⟩
    exfalso
    have e : (pairs ((txtOf (a ++ c :: b)).cps.toList.map fun k => Val.str ⟨#[k]⟩)).length = a.length + (b.length + 1) := by simp [pairs, txt_list]
    rw [Nat.zero_add, e] at hk
    omega
theorem r_check_line_nil (d : Val) : s_check_line [.lst [], d] = .err ⟨"InvalidRoster", "entry", .non⟩ := by rfl
end My
end
section
set_option Elab.async false
set_option linter.all false
set_option maxRecDepth 100000
set_option maxHeartbeats 4000000
namespace My
open PySem PySem.Spec PyProof.Rows L2 XK EV
local macro_rules | `(tactic| walk_at "ev") => `(tactic| repeat (with_reducible refine WP.imp ?_))
local macro_rules | `(tactic| walk_at "ex") => `(tactic| (first | refine gx ?_ | refine ⟨_, rfl, ?_⟩))
local macro_rules | `(tactic| walk_at "go") => `(tactic| repeat (first | with_reducible refine WP.imp ?_ | refine gx ?_ | refine ⟨_, rfl, ?_⟩))
local macro_rules | `(tactic| walk_at "s") => `(tactic| first
  | with_reducible refine u_ifP ?_
  | with_reducible refine WP.imp ?_
  | refine ⟨_, fun _ => ?_, fun h => (Bool.false_ne_true h.symm).elim, fun _ _ t => t⟩
  | refine ⟨_, fun h => (Bool.false_ne_true h).elim, fun _ => ?_, fun _ _ t => t⟩
  | refine gx ?_
  | refine ⟨_, eqG_int _ _, ?_⟩
  | refine ⟨_, neG_int _ _, ?_⟩
  | refine ⟨_, eqG_txt _ _, ?_⟩
  | refine ⟨_, neG_txt _ _, ?_⟩
  | refine ⟨_, eqG_txt _ [], ?_⟩
  | refine ⟨_, neG_txt _ [], ?_⟩
  | refine ⟨_, vLen_txt (by omega), ?_⟩
  | refine ⟨_, vIx_tup 0 rfl rfl, ?_⟩
  | refine ⟨_, vIx_tup 1 rfl rfl, ?_⟩
  | refine ⟨_, vIx_tup 2 rfl rfl, ?_⟩
  | refine ⟨_, rfl, ?_⟩
  | refine And.intro (fun _ => ?_) (fun h => (Bool.false_ne_true h.symm).elim)
  | refine And.intro (fun h => (Bool.false_ne_true h).elim) (fun _ => ?_)
  | refine And.intro (fun _ => ?_) (fun h => (Bool.false_ne_true h).elim)
  | refine And.intro (fun h => (Bool.false_ne_true h.symm).elim) (fun _ => ?_)
  | refine And.intro (Nat.le_of_ble_eq_true rfl : _ ≤ 1000) ?_
  | refine And.intro (Nat.le_of_ble_eq_true rfl : _ ≤ 1000000) ?_
  | refine And.intro (by omega) ?_
  | refine And.intro (fun _ => ?_) (fun h => by exfalso; simp only [Bool.not_eq_true', Bool.not_eq_false', decide_eq_true_eq, decide_eq_false_iff_not] at h; omega)
  | refine And.intro (fun h => by exfalso; simp only [Bool.not_eq_true', Bool.not_eq_false', decide_eq_true_eq, decide_eq_false_iff_not] at h; omega) (fun _ => ?_))
local macro_rules | `(tactic| walk_at "w") => `(tactic| repeat (walk_at "s"))
theorem sizes_at : ∀ i : Nat, i < 8 → ∃ k : Nat, ([.int 0, .int 1, .int 2, .int 2, .int 3, .int 3, .int 4, .int 5] : List Val)[i]? = some (.int (k : Nat)) ∧ k ≤ 5
  | 0, _ => ⟨0, rfl, by decide⟩
  | 1, _ => ⟨1, rfl, by decide⟩
  | 2, _ => ⟨2, rfl, by decide⟩
  | 3, _ => ⟨2, rfl, by decide⟩
  | 4, _ => ⟨3, rfl, by decide⟩
  | 5, _ => ⟨3, rfl, by decide⟩
  | 6, _ => ⟨4, rfl, by decide⟩
  | 7, _ => ⟨5, rfl, by decide⟩
  | n + 8, h => absurd h (by omega)
theorem abc_at : ∀ i : Nat, i < 26 → ("abcdefghijklmnopqrstuvwxyz" : Str).cps.toList[i]? = some (97 + i) := by decide +kernel
theorem abc_ix {s : Int} (h0 : 0 ≤ s) (h1 : s < 26) : vIx (.str "abcdefghijklmnopqrstuvwxyz") (.int s) = some (.str (txtOf [97 + s.toNat])) := by
  obtain ⟨k, rfl⟩ := Int.eq_ofNat_of_zero_le h0
  have e : vIx (.str "abcdefghijklmnopqrstuvwxyz") (.int (k : Nat)) = (atI ("abcdefghijklmnopqrstuvwxyz" : Str).cps.toList ((k : Nat) : Int)).map fun k => Val.str (txtOf [k]) := by
    walk_at "ev"
    show (if ("abcdefghijklmnopqrstuvwxyz" : Str).length ≤ 1000000 then (atI ("abcdefghijklmnopqrstuvwxyz" : Str).cps.toList ((k : Nat) : Int)).map (fun k => Val.str (txtOf [k])) else none) = _
    rw [if_pos (by decide)]
  rw [e, atI_nat (abc_at k (by omega))]
  walk_at "ev"
  rfl
theorem size_ix {j : Int} (h0 : 0 ≤ j) (h1 : j < 8) : ∃ k : Nat, vIx (.lst [.int 0, .int 1, .int 2, .int 2, .int 3, .int 3, .int 4, .int 5]) (.int j) = some (.int (k : Nat)) ∧ k ≤ 5 := by
  obtain ⟨i, rfl⟩ := Int.eq_ofNat_of_zero_le h0
  obtain ⟨k, e, hk⟩ := sizes_at i (by omega)
  walk_at "ev"
  exact ⟨k, atI_nat e, hk⟩
/-- a roster in the making: i entries, the next letter is s or behind it -/
structure Part (rs : Ros) (i : Nat) (s : Int) : Prop where
  l : rs.length = i
  s0 : 0 ≤ s
  s1 : s ≤ 17 + 2 * i
  up : rs.Pairwise (fun a b => a.1 < b.1)
  ok : ∀ r ∈ rs, okB r ∧ (r.1 : Int) < 97 + s
theorem a_law_roster {n : Nat} {Q : Val → Nat → Prop} (hn : 10 ≤ n) (h : ∀ rs k, okR rs → n ≤ k + 10 → Q (rosV rs) k) : Al (s__law_roster []) n Q (fun _ _ => False) := by
  refine gd__law_roster ?_
  unfold m__law_roster
  walk_at "ev"
  refine ⟨by decide, ?_⟩
  walk_at "ev"
  refine u_next (a := n - 1) (by omega) (by decide) (by decide) fun s0 s0a s0b => ?_
  walk_at "ev"
  refine u_next (a := n - 2) (by omega) (by decide) (by decide) fun c ca cb => ?_
  walk_at "ev"
  walk_at "ex"
  walk_at "ev"
  refine ⟨_, rfl, by omega, ?_⟩
  walk_at "ev"
  refine u_turns (fun i η a => ∃ (s : Int) (rs : Ros) (x4 : Option Val), η = [none, some (.str "abcdefghijklmnopqrstuvwxyz"), some (.lst (rs.map entV)), some (.int s), x4] ∧ Part rs i s ∧ n ≤ a + 2 + 2 * i) _ 0 _ _ ⟨s0, [], none, rfl, ⟨rfl, s0a, by omega, .nil, fun r h => nomatch h⟩, by omega⟩ ?_ ?_
  · rintro i d η a hd ⟨s, rs, x4, rfl, hp, ha⟩
    have hi : i < 4 := by
      have := (List.getElem?_eq_some_iff.mp hd).1
      rw [List.length_map, List.length_range] at this
      omega
    rw [Nat.zero_add] at hp ha
    walk_at "ev"
    walk_at "ex"
    walk_at "ev"
    have hs1 := hp.s1
    walk_at "ev"
    refine ⟨_, abc_ix hp.s0 (by omega), ?_⟩
    walk_at "ev"
    refine ⟨by decide, ?_⟩
    walk_at "ev"
    refine u_next (a := a - 1) (by omega) (by decide) (by decide) fun j ja jb => ?_
    obtain ⟨sz, e1, z1⟩ := size_ix ja jb
    walk_at "ev"
    refine ⟨_, e1, ?_⟩
    walk_at "ev"
    refine ⟨(by decide : 2 ≤ 1000), ?_⟩
    walk_at "ev"
    refine ⟨by rw [List.length_map, hp.l]; omega, ?_⟩
    walk_at "ev"
    walk_at "ex"
    walk_at "ev"
    refine u_next (a := a - 2) (by omega) (by decide) (by decide) fun g ga gb => ?_
    walk_at "ev"
    walk_at "ex"
    walk_at "ev"
    refine ⟨s + 1 + g, rs ++ [(97 + s.toNat, sz)], some d, ?_, ⟨?_, ?_, ?_, ?_, ?_⟩, ?_⟩
    · rw [List.map_append]
      walk_at "ev"
      rfl
    · rw [List.length_append, hp.l]
      walk_at "ev"
      show i + 1 = 0 + i + 1
      omega
    · have := hp.s0
      omega
    · omega
    · refine List.pairwise_append.mpr ⟨hp.up, List.pairwise_singleton _ _, fun x hx y hy => ?_⟩
      obtain rfl := List.mem_singleton.mp hy
      have := (hp.ok x hx).2
      walk_at "ev"
      show x.1 < 97 + s.toNat
      omega
    · intro r hr
      rcases List.mem_append.mp hr with hr | hr
      · walk_at "ev"
        exact ⟨(hp.ok r hr).1, by have := (hp.ok r hr).2; omega⟩
      · obtain rfl := List.mem_singleton.mp hr
        have := hp.s0
        walk_at "ev"
        exact ⟨⟨⟨by show 97 ≤ 97 + s.toNat; omega, by show 97 + s.toNat ≤ 122; omega⟩, z1⟩, by show ((97 + s.toNat : Nat) : Int) < 97 + (s + 1 + g); omega⟩
    · omega
  · rintro η a ⟨s, rs, x4, rfl, hp, ha⟩
    rw [List.length_map, List.length_range, Nat.zero_add] at hp ha
    walk_at "ev"
    walk_at "ex"
    refine h rs a ⟨?_, ?_, hp.up, fun r hr => (hp.ok r hr).1⟩ ?_
    · rw [hp.l]; omega
    · rw [hp.l]; omega
    · omega
end My
end
section
set_option Elab.async false
set_option linter.all false
set_option maxRecDepth 100000
set_option maxHeartbeats 4000000
namespace My
open PySem PySem.Spec PyProof.Rows L2 XK EV
local macro_rules | `(tactic| walk_at "ev") => `(tactic| repeat (with_reducible refine WP.imp ?_))
local macro_rules | `(tactic| walk_at "ex") => `(tactic| (first | refine gx ?_ | refine ⟨_, rfl, ?_⟩))
local macro_rules | `(tactic| walk_at "go") => `(tactic| repeat (first | with_reducible refine WP.imp ?_ | refine gx ?_ | refine ⟨_, rfl, ?_⟩))
local macro_rules | `(tactic| walk_at "s") => `(tactic| first
  | with_reducible refine u_ifP ?_
  | with_reducible refine WP.imp ?_
  | refine ⟨_, fun _ => ?_, fun h => (Bool.false_ne_true h.symm).elim, fun _ _ t => t⟩
  | refine ⟨_, fun h => (Bool.false_ne_true h).elim, fun _ => ?_, fun _ _ t => t⟩
  | refine gx ?_
  | refine ⟨_, eqG_int _ _, ?_⟩
  | refine ⟨_, neG_int _ _, ?_⟩
  | refine ⟨_, eqG_txt _ _, ?_⟩
  | refine ⟨_, neG_txt _ _, ?_⟩
  | refine ⟨_, eqG_txt _ [], ?_⟩
  | refine ⟨_, neG_txt _ [], ?_⟩
  | refine ⟨_, vLen_txt (by omega), ?_⟩
  | refine ⟨_, vIx_tup 0 rfl rfl, ?_⟩
  | refine ⟨_, vIx_tup 1 rfl rfl, ?_⟩
  | refine ⟨_, vIx_tup 2 rfl rfl, ?_⟩
  | refine ⟨_, rfl, ?_⟩
  | refine And.intro (fun _ => ?_) (fun h => (Bool.false_ne_true h.symm).elim)
  | refine And.intro (fun h => (Bool.false_ne_true h).elim) (fun _ => ?_)
  | refine And.intro (fun _ => ?_) (fun h => (Bool.false_ne_true h).elim)
  | refine And.intro (fun h => (Bool.false_ne_true h.symm).elim) (fun _ => ?_)
  | refine And.intro (Nat.le_of_ble_eq_true rfl : _ ≤ 1000) ?_
  | refine And.intro (Nat.le_of_ble_eq_true rfl : _ ≤ 1000000) ?_
  | refine And.intro (by omega) ?_
  | refine And.intro (fun _ => ?_) (fun h => by exfalso; simp only [Bool.not_eq_true', Bool.not_eq_false', decide_eq_true_eq, decide_eq_false_iff_not] at h; omega)
  | refine And.intro (fun h => by exfalso; simp only [Bool.not_eq_true', Bool.not_eq_false', decide_eq_true_eq, decide_eq_false_iff_not] at h; omega) (fun _ => ?_))
local macro_rules | `(tactic| walk_at "w") => `(tactic| repeat (walk_at "s"))
/-! sizes -/
def szK (rs : Ros) (k : Nat) : Nat := match rs.find? (fun r => r.1 == k) with
  | some r => r.2
  | none => 0
theorem szK_cons (r : Nat × Nat) (rs : Ros) (k : Nat) : szK (r :: rs) k = if r.1 = k then r.2 else szK rs k := by
  unfold szK
  rw [List.find?_cons]
  by_cases h : r.1 = k
  · rw [if_pos h, show (r.1 == k) = true from beq_iff_eq.mpr h]
  · rw [if_neg h, show (r.1 == k) = false from beq_eq_false_iff_ne.mpr h]
theorem szK_le {rs : Ros} (h : ∀ r ∈ rs, okB r) (k : Nat) : szK rs k ≤ 5 := by
  induction rs with
  | nil => exact Nat.zero_le _
  | cons r rs ih =>
    rw [szK_cons]
    split
    · exact (h r List.mem_cons_self).2
    · exact ih fun r hr => h r (List.mem_cons_of_mem _ hr)
def dicE (rs : Ros) : List (Key × Val) := rs.map fun r => ((Sum.inr (txtOf [r.1]) : Key), Val.int (r.2 : Nat))
def dicV (rs : Ros) : Val := .dic (dicE rs)
theorem pairsOf_ros : ∀ rs : Ros, pairsOf (rs.map entV) = some (dicE rs)
  | [] => rfl
  | r :: rs => by
    show (pairOf (entV r)).bind (fun q => (pairsOf (rs.map entV)).map (q :: ·)) = _
    rw [pairsOf_ros rs]
    walk_at "ev"
    rfl
theorem one_inj {a b : Nat} (h : txtOf [a] = txtOf [b]) : a = b := by
  have := txt_inj.mp h
  simpa using this
theorem vDict_ros {rs : Ros} (h : okR rs) : vDict (rosV rs) = some (dicE rs) := by
  walk_at "ev"
  show ((pairsOf (rs.map entV)).bind fun ps => if (ps.map (·.1)).Nodup then some ps else none) = _
  rw [pairsOf_ros]
  walk_at "ev"
  show (if ((dicE rs).map (·.1)).Nodup then some (dicE rs) else none) = _
  rw [if_pos]
  unfold dicE
  rw [List.map_map]
  refine List.pairwise_map.mpr (h.up.imp fun {a b} hab e => ?_)
  have := one_inj (Sum.inr.inj e)
  omega
theorem look_sz : ∀ {rs : Ros} {k : Nat}, k ∈ badges rs → lookK (dicE rs) (.inr (txtOf [k])) = some (.int (szK rs k : Nat))
  | [], _, h => nomatch h
  | r :: rs, k, h => by
    rw [szK_cons]
    by_cases e : r.1 = k
    · rw [if_pos e]
      subst e
      walk_at "ev"
      show ((List.find? _ (_ :: _)).map _ : Option Val) = _
      rw [List.find?_cons]
      rw [show (decide (((Sum.inr (txtOf [r.1]) : Key), Val.int (r.2 : Nat)).1 = Sum.inr (txtOf [r.1]))) = true from decide_eq_true rfl]
      walk_at "ev"
      rfl
    · rw [if_neg e]
      have hk : k ∈ badges rs := by
        rcases List.mem_cons.mp h with h | h
        · exact absurd h.symm e
        · exact h
      have := look_sz hk
      walk_at "ev"
      show ((List.find? _ (_ :: _)).map _ : Option Val) = _
      rw [List.find?_cons]
      rw [show (decide (((Sum.inr (txtOf [r.1]) : Key), Val.int (r.2 : Nat)).1 = Sum.inr (txtOf [k]))) = false from decide_eq_false fun q => e (one_inj (Sum.inr.inj q))]
      exact this
theorem vGet_sz {rs : Ros} {k : Nat} (h : k ∈ badges rs) : vGet (dicV rs) (.str (txtOf [k])) = some (.int (szK rs k : Nat)) := look_sz h
theorem r_size_of {rs : Ros} {k : Nat} (h : okR rs) (hk : k ∈ badges rs) : s_size_of [rosV rs, .str (txtOf [k])] = .ret (.int (szK rs k : Nat)) := by
  refine go_size_of ?_
  unfold m_size_of
  walk_at "ev"
  refine u_ret (r_check_roster h) ?_
  walk_at "ev"
  walk_at "ex"
  walk_at "ev"
  refine u_turnsM entV (fun i η _ => (∃ x2 x3, η = [some (rosV rs), some (.str (txtOf [k])), x2, x3]) ∧ szK (rs.drop i) k = szK rs k ∧ k ∈ badges (rs.drop i)) rs ⟨⟨_, _, rfl⟩, rfl, hk⟩ ?_ ?_
  · rintro i r η a hr ⟨⟨x2, x3, rfl⟩, e1, e2⟩
    obtain ⟨hi, rfl⟩ := List.getElem?_eq_some_iff.mp hr
    rw [List.drop_eq_getElem_cons hi] at e1 e2
    walk_at "ev"
    walk_at "ex"
    walk_at "ev"
    refine ⟨_, eqG_txt _ _, _, rfl, fun h1 => ?_, fun h1 => ?_⟩
    · walk_at "ev"
      have h2 : [(rs[i]).1] = [k] := of_decide_eq_true h1
      have h3 : (rs[i]).1 = k := by simpa using h2
      rw [szK_cons, if_pos h3] at e1
      walk_at "ev"
      show Val.int _ = _
      rw [e1]
    · walk_at "ev"
      have h2 : ¬ [(rs[i]).1] = [k] := of_decide_eq_false h1
      have h3 : ¬ (rs[i]).1 = k := fun q => h2 (by rw [q])
      rw [szK_cons, if_neg h3] at e1
      walk_at "ev"
      refine ⟨⟨_, _, rfl⟩, e1, ?_⟩
      rcases List.mem_cons.mp e2 with e2 | e2
      · exact absurd e2.symm h3
      · exact e2
  · rintro η a ⟨_, _, e2⟩
    rw [List.drop_length] at e2
    exact nomatch e2
/-- no badge of the roster -/
def odd (rs : Ros) (d : Val) : Prop := ∀ r ∈ rs, eqG (.str (txtOf [r.1])) d = some (.bl false)
theorem r_size_of_odd {rs : Ros} {d : Val} (h : okR rs) (hd : odd rs d) : s_size_of [rosV rs, d] = .err ⟨"InvalidBadge", "badge", d⟩ := by
  refine ge_size_of ?_
  unfold m_size_of
  walk_at "ev"
  refine u_ret (r_check_roster h) ?_
  walk_at "ev"
  walk_at "ex"
  walk_at "ev"
  refine u_turnsM entV (fun i η _ => ∃ x2 x3, η = [some (rosV rs), some d, x2, x3]) rs ⟨_, _, rfl⟩ ?_ ?_
  · rintro i r η a hr ⟨x2, x3, rfl⟩
    walk_at "ev"
    walk_at "ex"
    walk_at "ev"
    refine ⟨_, hd r (List.mem_of_getElem? hr), _, rfl, (fun h => nomatch h), fun _ => ?_⟩
    walk_at "ev"
    exact ⟨_, _, rfl⟩
  · rintro η a ⟨x2, x3, rfl⟩
    walk_at "ev"
    rfl
/-! crews -/
abbrev at0 (w : List Nat) (i : Nat) : Nat := w.getD i 0
abbrev szA (rs : Ros) (w : List Nat) (i : Nat) : Nat := szK rs (at0 w i)
def crB (rs : Ros) (w : List Nat) (i : Nat) : Bool := decide (0 < szA rs w i) && decide ((w.drop i).take (szA rs w i) = List.replicate (szA rs w i) (at0 w i))
theorem at0_of {w : List Nat} {i : Nat} (h : i < w.length) : w[i]? = some (at0 w i) := by
  rw [List.getElem?_eq_getElem h]
  simp [at0, List.getElem?_eq_getElem h]
theorem at0_mem {w : List Nat} {i : Nat} (h : i < w.length) : at0 w i ∈ w := List.mem_of_getElem? (at0_of h)
theorem r_is_crew_at {rs : Ros} {w : List Nat} {i : Nat} (h : okR rs) (hz : okL rs w) (hi : i < w.length) : s_is_crew_at [dicV rs, lnV w, .int (i : Nat)] = .ret (.bl (crB rs w i)) := by
  have hl := hz.len
  have h5 : szA rs w i ≤ 5 := szK_le h.ok (at0 w i)
  refine go_is_crew_at ?_
  unfold m_is_crew_at
  walk_at "ev"
  refine ⟨_, vIx_txt i rfl (at0_of hi) (by omega), ?_⟩
  walk_at "ev"
  refine ⟨_, vGet_sz (hz.mem _ (at0_mem hi)), ?_⟩
  walk_at "ev"
  refine ⟨_, rfl, _, rfl, fun h0 => ?_, fun h0 => ?_⟩
  · walk_at "go"
    walk_at "ev"
    refine ⟨_, vSl_nn i (i + szA rs w i) rfl (by push_cast; rfl) (by omega), ?_⟩
    walk_at "ev"
    refine ⟨_, vMul_txt (szA rs w i) rfl (by omega), ?_⟩
    walk_at "ev"
    refine ⟨_, eqG_txt _ _, ?_⟩
    walk_at "ev"
    show Val.bl _ = Val.bl _
    have h1 : (0 : Int) < (szA rs w i : Nat) := of_decide_eq_true h0
    unfold crB
    rw [decide_eq_true (by omega : 0 < szA rs w i), Bool.true_and, Nat.add_sub_cancel_left]
  · walk_at "ev"
    show Val.bl _ = Val.bl _
    have h1 : ¬ (0 : Int) < (szA rs w i : Nat) := of_decide_eq_false h0
    unfold crB
    rw [decide_eq_false (by omega : ¬ 0 < szA rs w i), Bool.false_and]
/-! steps -/
abbrev Stp := Nat × Bool
abbrev stV (s : Stp) : Val := .tup [.int (s.1 : Nat), .int (if s.2 then 1 else -1)]
def posB (rs : Ros) (w : List Nat) (s : Stp) : Bool := decide (s.1 < w.length) && (crB rs w s.1 && (if s.2 then decide (s.1 + szA rs w s.1 < w.length) && !decide (at0 w (s.1 + szA rs w s.1) = at0 w s.1) else decide (0 < s.1) && !decide (at0 w (s.1 - 1) = at0 w s.1)))
def cand (i : Nat) : List Stp := [(i, false), (i, true)]
theorem flat_cand (pl : List Nat) : pl.flatMap (fun i => [stV (i, false), stV (i, true)]) = (pl.flatMap cand).map stV := by
  induction pl with
  | nil => rfl
  | cons i pl ih => rw [List.flatMap_cons, List.flatMap_cons, List.map_append, ih]; rfl
theorem one_decide (a b : Nat) : decide ([a] = [b]) = decide (a = b) := by
  rw [Bool.eq_iff_iff, decide_eq_true_iff, decide_eq_true_iff]
  walk_at "ev"
  exact ⟨fun h => by simpa using h, fun h => by rw [h]⟩
theorem r_is_possible {rs : Ros} {w : List Nat} {s : Stp} (h : okR rs) (hz : okL rs w) : s_is_possible [dicV rs, lnV w, stV s] = .ret (.bl (posB rs w s)) := by
  have hl := hz.len
  obtain ⟨i, b⟩ := s
  have h5 : szA rs w i ≤ 5 := szK_le h.ok (at0 w i)
  refine go_is_possible ?_
  unfold m_is_possible
  walk_at "ev"
  walk_at "ex"
  walk_at "ev"
  refine ⟨_, vLen_txt (by omega), ?_⟩
  walk_at "ev"
  refine ⟨_, rfl, _, rfl, ?_⟩
  by_cases hi : i < w.length
  · walk_at "ev"
    refine ⟨fun _ => ?_, fun h0 => ?_⟩
    rotate_left
    · exfalso
      have h1 : ((w.length : Nat) : Int) ≤ ((i : Nat) : Int) := of_decide_eq_true h0
      omega
    walk_at "ev"
    refine u_ret (r_is_crew_at h hz hi) ?_
    walk_at "ev"
    refine ⟨_, rfl, fun h0 => ?_, fun h0 => ?_⟩
    · have h0' : crB rs w i = false := by revert h0; cases crB rs w i <;> intro h <;> first | rfl | exact nomatch h
      walk_at "ev"
      show Val.bl false = _
      unfold posB
      simp [h0']
    · have h0' : crB rs w i = true := by revert h0; cases crB rs w i <;> intro h <;> first | rfl | exact nomatch h
      walk_at "ev"
      cases b with
      | true =>
        walk_at "ev"
        walk_at "ex"
        walk_at "ev"
        refine ⟨_, rfl, false, rfl, (fun h => nomatch h), fun _ => ?_⟩
        walk_at "ev"
        refine ⟨_, vIx_txt i rfl (at0_of hi) (by omega), ?_⟩
        walk_at "ev"
        refine ⟨_, vGet_sz (hz.mem _ (at0_mem hi)), ?_⟩
        walk_at "ev"
        walk_at "ex"
        walk_at "ev"
        refine ⟨true, ?_, fun _ => ?_, fun h => nomatch h⟩
        · walk_at "ev"
          show some (Val.bl (decide ((0 : Int) ≤ (i : Int) + (szA rs w i : Nat)))) = _
          rw [decide_eq_true (by omega)]
        walk_at "ev"
        refine ⟨_, vLen_txt (by omega), ?_⟩
        walk_at "ev"
        refine ⟨_, rfl, _, rfl, fun h1 => ?_, fun h1 => ?_⟩
        · have h1' : (i : Int) + (szA rs w i : Nat) < (w.length : Nat) := of_decide_eq_true h1
          have h2 : i + szA rs w i < w.length := by omega
          walk_at "ev"
          refine ⟨_, vIx_txt (i + szA rs w i) (by push_cast; rfl) (at0_of h2) (by omega), ?_⟩
          walk_at "ev"
          refine ⟨_, vIx_txt i rfl (at0_of hi) (by omega), ?_⟩
          walk_at "ev"
          refine ⟨_, neG_txt _ _, ?_⟩
          walk_at "ev"
          show Val.bl _ = _
          unfold posB
          rw [one_decide]
          simp only [h0', decide_eq_true hi, decide_eq_true h2, Bool.true_and, if_true]
        · have h1' : ¬ (i : Int) + (szA rs w i : Nat) < (w.length : Nat) := of_decide_eq_false h1
          have h2 : ¬ i + szA rs w i < w.length := by omega
          walk_at "ev"
          show Val.bl _ = _
          unfold posB
          simp only [h0', decide_eq_true hi, decide_eq_false h2, Bool.true_and, Bool.false_and, if_true]
      | false =>
        walk_at "ev"
        walk_at "ex"
        walk_at "ev"
        refine ⟨_, rfl, true, rfl, fun _ => ?_, fun h => nomatch h⟩
        walk_at "ev"
        walk_at "ex"
        walk_at "ev"
        refine ⟨_, rfl, fun h1 => ?_, fun h1 => ?_⟩
        · have h1' : (0 : Int) ≤ (i : Int) - 1 := of_decide_eq_true h1
          have h2 : 0 < i := by omega
          walk_at "ev"
          refine ⟨_, vLen_txt (by omega), ?_⟩
          walk_at "ev"
          refine ⟨.bl true, ?_, true, rfl, fun _ => ?_, fun h => nomatch h⟩
          · walk_at "ev"
            show some (Val.bl (decide ((i : Int) - 1 < (w.length : Nat)))) = _
            rw [decide_eq_true (by omega)]
          walk_at "ev"
          refine ⟨_, vIx_txt (i - 1) (by omega) (at0_of (by omega)) (by omega), ?_⟩
          walk_at "ev"
          refine ⟨_, vIx_txt i rfl (at0_of hi) (by omega), ?_⟩
          walk_at "ev"
          refine ⟨_, neG_txt _ _, ?_⟩
          walk_at "ev"
          show Val.bl _ = _
          unfold posB
          rw [one_decide]
          simp [h0', hi, h2]
        · have h1' : ¬ (0 : Int) ≤ (i : Int) - 1 := of_decide_eq_false h1
          have h2 : ¬ 0 < i := by omega
          walk_at "ev"
          refine ⟨false, rfl, (fun h => nomatch h), fun _ => ?_⟩
          walk_at "ev"
          show Val.bl _ = _
          unfold posB
          simp [h2]
  · walk_at "ev"
    refine ⟨fun h0 => ?_, fun h0 => ?_⟩
    · exfalso
      have h1 : ¬ ((w.length : Nat) : Int) ≤ ((i : Nat) : Int) := of_decide_eq_false h0
      omega
    · walk_at "ev"
      refine ⟨fun _ => ?_, fun h => nomatch h⟩
      walk_at "ev"
      show Val.bl false = _
      unfold posB
      simp [hi]
end My
end
section
set_option Elab.async false
set_option linter.all false
set_option maxRecDepth 100000
set_option maxHeartbeats 4000000
namespace My
open PySem PySem.Spec PyProof.Rows L2 XK EV
local macro_rules | `(tactic| walk_at "ev") => `(tactic| repeat (with_reducible refine WP.imp ?_))
local macro_rules | `(tactic| walk_at "ex") => `(tactic| (first | refine gx ?_ | refine ⟨_, rfl, ?_⟩))
local macro_rules | `(tactic| walk_at "go") => `(tactic| repeat (first | with_reducible refine WP.imp ?_ | refine gx ?_ | refine ⟨_, rfl, ?_⟩))
local macro_rules | `(tactic| walk_at "s") => `(tactic| first
  | with_reducible refine u_ifP ?_
  | with_reducible refine WP.imp ?_
  | refine ⟨_, fun _ => ?_, fun h => (Bool.false_ne_true h.symm).elim, fun _ _ t => t⟩
  | refine ⟨_, fun h => (Bool.false_ne_true h).elim, fun _ => ?_, fun _ _ t => t⟩
  | refine gx ?_
  | refine ⟨_, eqG_int _ _, ?_⟩
  | refine ⟨_, neG_int _ _, ?_⟩
  | refine ⟨_, eqG_txt _ _, ?_⟩
  | refine ⟨_, neG_txt _ _, ?_⟩
  | refine ⟨_, eqG_txt _ [], ?_⟩
  | refine ⟨_, neG_txt _ [], ?_⟩
  | refine ⟨_, vLen_txt (by omega), ?_⟩
  | refine ⟨_, vIx_tup 0 rfl rfl, ?_⟩
  | refine ⟨_, vIx_tup 1 rfl rfl, ?_⟩
  | refine ⟨_, vIx_tup 2 rfl rfl, ?_⟩
  | refine ⟨_, rfl, ?_⟩
  | refine And.intro (fun _ => ?_) (fun h => (Bool.false_ne_true h.symm).elim)
  | refine And.intro (fun h => (Bool.false_ne_true h).elim) (fun _ => ?_)
  | refine And.intro (fun _ => ?_) (fun h => (Bool.false_ne_true h).elim)
  | refine And.intro (fun h => (Bool.false_ne_true h.symm).elim) (fun _ => ?_)
  | refine And.intro (Nat.le_of_ble_eq_true rfl : _ ≤ 1000) ?_
  | refine And.intro (Nat.le_of_ble_eq_true rfl : _ ≤ 1000000) ?_
  | refine And.intro (by omega) ?_
  | refine And.intro (fun _ => ?_) (fun h => by exfalso; simp only [Bool.not_eq_true', Bool.not_eq_false', decide_eq_true_eq, decide_eq_false_iff_not] at h; omega)
  | refine And.intro (fun h => by exfalso; simp only [Bool.not_eq_true', Bool.not_eq_false', decide_eq_true_eq, decide_eq_false_iff_not] at h; omega) (fun _ => ?_))
local macro_rules | `(tactic| walk_at "w") => `(tactic| repeat (walk_at "s"))
theorem cr_len {rs : Ros} {w : List Nat} {i : Nat} (hc : crB rs w i = true) (hi : i < w.length) : 0 < szA rs w i ∧ i + szA rs w i ≤ w.length ∧ (w.drop i).take (szA rs w i) = List.replicate (szA rs w i) (at0 w i) := by
  unfold crB at hc
  rw [Bool.and_eq_true, decide_eq_true_iff, decide_eq_true_iff] at hc
  have e := congrArg List.length hc.2
  rw [List.length_take, List.length_drop, List.length_replicate] at e
  walk_at "ev"
  exact ⟨hc.1, by omega, hc.2⟩
/-- the line after a step -/
def aft (rs : Ros) (w : List Nat) (s : Stp) : List Nat :=
  if s.2 then w.take s.1 ++ [at0 w (s.1 + szA rs w s.1)] ++ (w.drop s.1).take (szA rs w s.1) ++ w.drop (s.1 + szA rs w s.1 + 1)
  else w.take (s.1 - 1) ++ (w.drop s.1).take (szA rs w s.1) ++ [at0 w (s.1 - 1)] ++ w.drop (s.1 + szA rs w s.1)
structure Pos (rs : Ros) (w : List Nat) (s : Stp) : Prop where
  lt : s.1 < w.length
  sz : 0 < szA rs w s.1
  en : s.1 + szA rs w s.1 ≤ w.length
  cr : crB rs w s.1 = true
  nb : (s.2 = true → s.1 + szA rs w s.1 < w.length ∧ at0 w (s.1 + szA rs w s.1) ≠ at0 w s.1) ∧ (s.2 = false → 0 < s.1 ∧ at0 w (s.1 - 1) ≠ at0 w s.1)
theorem pos_of {rs : Ros} {w : List Nat} {s : Stp} (h : posB rs w s = true) : Pos rs w s := by
  obtain ⟨i, b⟩ := s
  unfold posB at h
  rw [Bool.and_eq_true, Bool.and_eq_true, decide_eq_true_iff] at h
  obtain ⟨hi, hc, hb⟩ := h
  obtain ⟨h1, h2, h3⟩ := cr_len hc hi
  walk_at "ev"
  refine ⟨hi, h1, h2, hc, fun e => ?_, fun e => ?_⟩
  · cases e
    simpa using hb
  · cases e
    simpa using hb
theorem aft_len {rs : Ros} {w : List Nat} {s : Stp} (h : Pos rs w s) : (aft rs w s).length = w.length := by
  obtain ⟨i, b⟩ := s
  obtain ⟨h1, h2, h3, h4, h5, h6⟩ := h
  unfold aft
  cases b with
  | true =>
    have h7 := (h5 rfl).1
    simp only [if_true, List.length_append, List.length_take, List.length_drop, List.length_singleton] at *
    omega
  | false =>
    have h7 := (h6 rfl).1
    simp only [Bool.false_eq_true, if_false, List.length_append, List.length_take, List.length_drop, List.length_singleton] at *
    omega
theorem aft_mem {rs : Ros} {w : List Nat} {s : Stp} (h : Pos rs w s) {c : Nat} (hc : c ∈ aft rs w s) : c ∈ w := by
  obtain ⟨i, b⟩ := s
  obtain ⟨h1, h2, h3, h4, h5, h6⟩ := h
  unfold aft at hc
  cases b with
  | true =>
    have h7 := (h5 rfl).1
    simp only [if_true, List.mem_append, List.mem_singleton] at hc
    rcases hc with ((hc | hc) | hc) | hc
    · exact List.mem_of_mem_take hc
    · rw [hc]; exact at0_mem h7
    · exact List.mem_of_mem_drop (List.mem_of_mem_take hc)
    · exact List.mem_of_mem_drop hc
  | false =>
    have h7 := (h6 rfl).1
    simp only [Bool.false_eq_true, if_false, List.mem_append, List.mem_singleton] at hc
    rcases hc with ((hc | hc) | hc) | hc
    · exact List.mem_of_mem_take hc
    · exact List.mem_of_mem_drop (List.mem_of_mem_take hc)
    · rw [hc]; exact at0_mem (by have h8 : i < w.length := h1; show i - 1 < w.length; omega)
    · exact List.mem_of_mem_drop hc
theorem aft_ok {rs : Ros} {w : List Nat} {s : Stp} (hz : okL rs w) (h : Pos rs w s) : okL rs (aft rs w s) := ⟨by rw [aft_len h]; exact hz.len, fun k hk => hz.mem k (aft_mem h hk)⟩
theorem r_after_step {rs : Ros} {w : List Nat} {s : Stp} (h : okR rs) (hz : okL rs w) (hp : Pos rs w s) : s_after_step [dicV rs, lnV w, stV s] = .ret (lnV (aft rs w s)) := by
  have hl := hz.len
  have hal := aft_len hp
  obtain ⟨i, b⟩ := s
  obtain ⟨h1, h2, h3, h4, h6, h7⟩ := hp
  have h5 : szA rs w i ≤ 5 := szK_le h.ok (at0 w i)
  refine go_after_step ?_
  unfold m_after_step
  walk_at "ev"
  walk_at "ex"
  walk_at "ev"
  refine ⟨_, vIx_txt i rfl (at0_of h1) (by omega), ?_⟩
  walk_at "ev"
  refine ⟨_, vGet_sz (hz.mem _ (at0_mem h1)), ?_⟩
  walk_at "ev"
  walk_at "ex"
  walk_at "ev"
  walk_at "ex"
  walk_at "ev"
  walk_at "ex"
  walk_at "ev"
  refine ⟨_, vSl_nn i (i + szA rs w i) rfl (by push_cast; rfl) (by omega), ?_⟩
  rw [Nat.add_sub_cancel_left]
  walk_at "ev"
  cases b with
  | true =>
    have h8 := (h6 rfl).1
    walk_at "ev"
    refine ⟨_, rfl, true, rfl, fun _ => ?_, fun h => nomatch h⟩
    walk_at "ev"
    walk_at "ex"
    walk_at "ev"
    refine ⟨_, vSl_0 i rfl (by omega), ?_⟩
    walk_at "ev"
    refine ⟨_, vIx_txt (i + szA rs w i) (by push_cast; rfl) (at0_of h8) (by omega), ?_⟩
    walk_at "ev"
    refine ⟨_, vAdd_txt (by rw [List.length_take, List.length_singleton]; omega), ?_⟩
    walk_at "ev"
    refine ⟨_, vAdd_txt (by simp only [List.length_append, List.length_take, List.length_drop, List.length_singleton]; omega), ?_⟩
    walk_at "ev"
    walk_at "ex"
    walk_at "ev"
    walk_at "ex"
    walk_at "ev"
    refine ⟨_, vSl_n (i + szA rs w i + 1) (by push_cast; rfl) (by omega), ?_⟩
    walk_at "ev"
    refine ⟨_, vAdd_txt (by simp only [List.length_append, List.length_take, List.length_drop, List.length_singleton]; omega), ?_⟩
    walk_at "ev"
    rfl
  | false =>
    have h8 := (h7 rfl).1
    have h9 : i < w.length := h1
    have h10 : 0 < i := h8
    walk_at "ev"
    refine ⟨_, rfl, false, rfl, (fun h => nomatch h), fun _ => ?_⟩
    walk_at "ev"
    walk_at "ex"
    walk_at "ev"
    walk_at "ex"
    walk_at "ev"
    refine ⟨_, vSl_0 (i - 1) (by omega) (by omega), ?_⟩
    walk_at "ev"
    refine ⟨_, vAdd_txt (by simp only [List.length_append, List.length_take, List.length_drop, List.length_singleton]; omega), ?_⟩
    walk_at "ev"
    walk_at "ex"
    walk_at "ev"
    refine ⟨_, vIx_txt (i - 1) (by omega) (at0_of (by omega)) (by omega), ?_⟩
    walk_at "ev"
    refine ⟨_, vAdd_txt (by simp only [List.length_append, List.length_take, List.length_drop, List.length_singleton]; omega), ?_⟩
    walk_at "ev"
    walk_at "ex"
    walk_at "ev"
    refine ⟨_, vSl_n (i + szA rs w i) (by push_cast; rfl) (by omega), ?_⟩
    walk_at "ev"
    refine ⟨_, vAdd_txt (by simp only [List.length_append, List.length_take, List.length_drop, List.length_singleton]; omega), ?_⟩
    walk_at "ev"
    rfl
/-! steps to try -/
theorem r_steps_all {rs : Ros} {w : List Nat} (h : okR rs) (hz : okL rs w) : s_steps_to_try [rosV rs, lnV w, .non] = .ret (.lst (((List.range w.length).flatMap cand).map stV)) := by
  have hl := hz.len
  refine go_steps_to_try ?_
  unfold m_steps_to_try
  walk_at "ev"
  refine ⟨_, rfl, false, rfl, (fun h => nomatch h), fun _ => ?_⟩
  walk_at "ev"
  walk_at "ex"
  walk_at "ev"
  refine ⟨by rw [EV.pairs_len, List.length_map]; show w.length ≤ _; omega, ?_⟩
  have e : pairs ((txtOf w).cps.toList.map fun k => Val.str ⟨#[k]⟩) = (List.range w.length).map fun i => .tup [.int (i : Nat), .str (txtOf [w.getD i 0])] := pairs_txt w
  rw [e]
  walk_at "ev"
  refine u_lcM (fun i : Nat => Val.tup [.int (i : Nat), .str (txtOf [w.getD i 0])]) (fun _ => true) (fun i => .int (i : Nat)) (l := List.range w.length) (fun i hi => gx ⟨?_, fun _ => ?_⟩) ?_
  · walk_at "ev"
    exact ⟨_, rfl, true, rfl, (fun h => nomatch h), fun _ => rfl⟩
  · walk_at "ev"
    rfl
  rw [List.filter_eq_self.mpr fun _ _ => rfl]
  walk_at "ev"
  walk_at "ev"
  walk_at "ex"
  walk_at "ev"
  refine ⟨by rw [List.length_map, List.length_range]; omega, ?_⟩
  walk_at "ev"
  refine u_lc2A (fun i : Nat => Val.int (i : Nat)) (fun i => [stV (i, false), stV (i, true)]) (l := List.range w.length) (fun i hi => gx ?_) ?_
  · walk_at "ev"
    walk_at "ex"
    walk_at "ev"
    refine ⟨(by decide : 2 ≤ 1000), ?_⟩
    walk_at "ev"
    walk_at "ex"
    walk_at "ev"
    refine ⟨(by decide : 2 ≤ 1000), ?_⟩
    walk_at "ev"
    refine u_lcA (fun b : Bool => Val.int (if b then 1 else -1)) (fun b => stV (i, b)) (l := [false, true]) (fun b _ => gx ?_) ?_
    · walk_at "ev"
      exact ⟨(by decide : 2 ≤ 1000), rfl⟩
    · walk_at "ev"
      rfl
  · rw [flat_cand]
    walk_at "ev"
    rfl
theorem r_steps_some {rs : Ros} {w : List Nat} {k : Nat} (h : okR rs) (hz : okL rs w) (hk : k ∈ badges rs) : s_steps_to_try [rosV rs, lnV w, .str (txtOf [k])] = .ret (.lst ((((List.range w.length).filter fun i => decide (at0 w i = k)).flatMap cand).map stV)) := by
  have hl := hz.len
  refine go_steps_to_try ?_
  unfold m_steps_to_try
  walk_at "ev"
  refine ⟨_, rfl, true, rfl, fun _ => ?_, fun h => nomatch h⟩
  walk_at "ev"
  refine u_ret (r_size_of h hk) ?_
  walk_at "ev"
  walk_at "ex"
  walk_at "ev"
  refine ⟨by rw [EV.pairs_len, List.length_map]; show w.length ≤ _; omega, ?_⟩
  have e : pairs ((txtOf w).cps.toList.map fun k => Val.str ⟨#[k]⟩) = (List.range w.length).map fun i => .tup [.int (i : Nat), .str (txtOf [w.getD i 0])] := pairs_txt w
  rw [e]
  walk_at "ev"
  refine u_lcM (fun i : Nat => Val.tup [.int (i : Nat), .str (txtOf [w.getD i 0])]) (fun i => decide (at0 w i = k)) (fun i => .int (i : Nat)) (l := List.range w.length) (fun i hi => gx ⟨?_, fun _ => ?_⟩) ?_
  · walk_at "ev"
    refine ⟨_, rfl, false, rfl, fun _ => ?_, fun h => nomatch h⟩
    walk_at "ev"
    refine ⟨_, eqG_txt _ _, _, rfl, ?_⟩
    exact one_decide _ _
  · walk_at "ev"
    rfl
  walk_at "ev"
  walk_at "ev"
  walk_at "ex"
  walk_at "ev"
  refine ⟨by rw [List.length_map]; exact Nat.le_trans (List.length_filter_le ..) (by rw [List.length_range]; omega), ?_⟩
  walk_at "ev"
  refine u_lc2A (fun i : Nat => Val.int (i : Nat)) (fun i => [stV (i, false), stV (i, true)]) (fun i hi => gx ?_) ?_
  · walk_at "ev"
    walk_at "ex"
    walk_at "ev"
    refine ⟨(by decide : 2 ≤ 1000), ?_⟩
    walk_at "ev"
    walk_at "ex"
    walk_at "ev"
    refine ⟨(by decide : 2 ≤ 1000), ?_⟩
    walk_at "ev"
    refine u_lcA (fun b : Bool => Val.int (if b then 1 else -1)) (fun b => stV (i, b)) (l := [false, true]) (fun b _ => gx ?_) ?_
    · walk_at "ev"
      exact ⟨(by decide : 2 ≤ 1000), rfl⟩
    · walk_at "ev"
      rfl
  · rw [flat_cand]
    walk_at "ev"
    rfl
theorem r_steps_odd {rs : Ros} {w : List Nat} {d : Val} (h : okR rs) (hn : d ≠ .non) (hd : odd rs d) : s_steps_to_try [rosV rs, lnV w, d] = .err ⟨"InvalidBadge", "badge", d⟩ := by
  refine ge_steps_to_try ?_
  unfold m_steps_to_try
  walk_at "ev"
  refine ⟨.bl true, ?_, true, rfl, fun _ => ?_, fun h => nomatch h⟩
  · cases d <;> first | rfl | exact absurd rfl hn
  walk_at "ev"
  refine u_err (r_size_of_odd h hd) ?_
  walk_at "ev"
  rfl
/-! the steps of a line -/
theorem cand_le (pl : List Nat) : ((pl.flatMap cand).map stV).length = 2 * pl.length := by
  rw [List.length_map]
  induction pl with
  | nil => rfl
  | cons i pl ih => rw [List.flatMap_cons, List.length_append, ih, List.length_cons]; show 2 + _ = _; omega
/-! walks -/
theorem r_is_place {i : Nat} (h : i < 12) : s__is_place [.int (i : Nat)] = .ret (.bl true) := by
  refine go__is_place ?_
  unfold m__is_place
  walk_at "ev"
  refine u_ret (r_is_int _) ?_
  walk_at "ev"
  refine ⟨true, rfl, fun _ => ?_, fun h => nomatch h⟩
  walk_at "ev"
  refine ⟨true, ?_, fun _ => ?_, fun h => nomatch h⟩
  · walk_at "ev"
    show some (Val.bl (decide ((0 : Int) ≤ ((i : Nat) : Int)))) = _
    rw [decide_eq_true (by omega)]
  walk_at "ev"
  refine ⟨.bl true, ?_, rfl⟩
  walk_at "ev"
  show some (Val.bl (decide (((i : Nat) : Int) < 12))) = _
  rw [decide_eq_true (by omega)]
theorem r_is_side (b : Bool) : s__is_side [.int (if b then 1 else -1)] = .ret (.bl true) := by cases b <;> rfl
theorem r_is_step {s : Stp} (h : s.1 < 12) : s__is_step [stV s] = .ret (.bl true) := by
  refine go__is_step ?_
  unfold m__is_step
  walk_at "ev"
  refine ⟨true, rfl, ?_⟩
  walk_at "ev"
  refine ⟨true, rfl, fun _ => ?_, fun h => nomatch h⟩
  walk_at "ev"
  walk_at "ex"
  walk_at "ev"
  walk_at "ex"
  walk_at "ev"
  refine ⟨true, rfl, fun _ => ?_, fun h => nomatch h⟩
  walk_at "ev"
  walk_at "ex"
  walk_at "ev"
  refine u_ret (r_is_place h) ?_
  walk_at "ev"
  refine ⟨true, rfl, fun _ => ?_, fun h => nomatch h⟩
  walk_at "ev"
  walk_at "ex"
  walk_at "ev"
  exact u_ret (r_is_side _) rfl
abbrev wkV (ss : List Stp) : Val := .tup (ss.map stV)
theorem r_check_walk {ss : List Stp} (h : ∀ s ∈ ss, s.1 < 12) (hl : ss.length ≤ 1000) : s_check_walk [wkV ss] = .ret .non := by
  refine go_check_walk ?_
  unfold m_check_walk
  walk_at "ev"
  refine ⟨true, rfl, ?_⟩
  walk_at "ev"
  refine ⟨true, rfl, ?_⟩
  walk_at "ev"
  refine ⟨fun _ => ?_, fun h => nomatch h⟩
  walk_at "ev"
  walk_at "ex"
  walk_at "ev"
  refine ⟨.bl false, ?_, false, rfl, ?_⟩
  · walk_at "ev"
    show some (Val.bl (decide ((1000 : Int) < (((ss.map stV).length : Nat) : Int)))) = _
    rw [List.length_map, decide_eq_false (by omega)]
  walk_at "ev"
  refine ⟨(fun h => nomatch h), fun _ => ?_⟩
  walk_at "ev"
  walk_at "ex"
  walk_at "ev"
  refine u_turns (fun k η _ => ∃ x1 x2, η = [some (wkV ss), x1, x2]) _ 0 _ _ ⟨none, none, rfl⟩ ?_ ?_
  · rintro k d η a hd ⟨x1, x2, rfl⟩
    obtain ⟨e, he, rfl⟩ := pairs_at hd
    rw [List.getElem?_map] at he
    obtain ⟨s, hs, rfl⟩ := Option.map_eq_some_iff.mp he
    walk_at "ev"
    walk_at "ex"
    walk_at "ev"
    refine u_ret (r_is_step (h s (List.mem_of_getElem? hs))) ?_
    walk_at "ev"
    refine ⟨true, rfl, ?_⟩
    walk_at "ev"
    refine ⟨(fun h => nomatch h), fun _ => ?_⟩
    walk_at "ev"
    exact ⟨_, _, rfl⟩
  · rintro η a ⟨x1, x2, rfl⟩
    walk_at "ev"
    rfl
end My
end
section
set_option Elab.async false
set_option linter.all false
set_option maxRecDepth 100000
set_option maxHeartbeats 4000000
namespace My
open PySem PySem.Spec PyProof.Rows L2 XK EV
local macro_rules | `(tactic| walk_at "ev") => `(tactic| repeat (with_reducible refine WP.imp ?_))
local macro_rules | `(tactic| walk_at "ex") => `(tactic| (first | refine gx ?_ | refine ⟨_, rfl, ?_⟩))
local macro_rules | `(tactic| walk_at "go") => `(tactic| repeat (first | with_reducible refine WP.imp ?_ | refine gx ?_ | refine ⟨_, rfl, ?_⟩))
local macro_rules | `(tactic| walk_at "s") => `(tactic| first
  | with_reducible refine u_ifP ?_
  | with_reducible refine WP.imp ?_
  | refine ⟨_, fun _ => ?_, fun h => (Bool.false_ne_true h.symm).elim, fun _ _ t => t⟩
  | refine ⟨_, fun h => (Bool.false_ne_true h).elim, fun _ => ?_, fun _ _ t => t⟩
  | refine gx ?_
  | refine ⟨_, eqG_int _ _, ?_⟩
  | refine ⟨_, neG_int _ _, ?_⟩
  | refine ⟨_, eqG_txt _ _, ?_⟩
  | refine ⟨_, neG_txt _ _, ?_⟩
  | refine ⟨_, eqG_txt _ [], ?_⟩
  | refine ⟨_, neG_txt _ [], ?_⟩
  | refine ⟨_, vLen_txt (by omega), ?_⟩
  | refine ⟨_, vIx_tup 0 rfl rfl, ?_⟩
  | refine ⟨_, vIx_tup 1 rfl rfl, ?_⟩
  | refine ⟨_, vIx_tup 2 rfl rfl, ?_⟩
  | refine ⟨_, rfl, ?_⟩
  | refine And.intro (fun _ => ?_) (fun h => (Bool.false_ne_true h.symm).elim)
  | refine And.intro (fun h => (Bool.false_ne_true h).elim) (fun _ => ?_)
  | refine And.intro (fun _ => ?_) (fun h => (Bool.false_ne_true h).elim)
  | refine And.intro (fun h => (Bool.false_ne_true h.symm).elim) (fun _ => ?_)
  | refine And.intro (Nat.le_of_ble_eq_true rfl : _ ≤ 1000) ?_
  | refine And.intro (Nat.le_of_ble_eq_true rfl : _ ≤ 1000000) ?_
  | refine And.intro (by omega) ?_
  | refine And.intro (fun _ => ?_) (fun h => by exfalso; simp only [Bool.not_eq_true', Bool.not_eq_false', decide_eq_true_eq, decide_eq_false_iff_not] at h; omega)
  | refine And.intro (fun h => by exfalso; simp only [Bool.not_eq_true', Bool.not_eq_false', decide_eq_true_eq, decide_eq_false_iff_not] at h; omega) (fun _ => ?_))
local macro_rules | `(tactic| walk_at "w") => `(tactic| repeat (walk_at "s"))
--raw
theorem low_of {rs : Ros} (h : okR rs) {k : Nat} (hk : k ∈ badges rs) : lowC k := by
  obtain ⟨r, hr, rfl⟩ := List.mem_map.mp hk
  exact (h.ok r hr).1
theorem low_lt {rs : Ros} (h : okR rs) {k : Nat} (hk : k ∈ badges rs) : k < 123 := by
  have := low_of h hk
  unfold lowC at this
  omega
theorem ov_line {w : List Nat} (hz : ∀ c ∈ w, c < 123) (hl : w.length ≤ 13) : OkV (lnV w) 0 13 := (ov_txt fun c hc => by have := hz c hc; omega).mono (Nat.le_refl _) hl
theorem ov_pair {a b : Val} {k W : Nat} (ha : OkV a k W) (hb : OkV b k W) : OkV (.tup [a, b]) (k + 1) (2 * (W + 1)) := ov_tup fun d hd => by
  rcases List.mem_cons.mp hd with rfl | hd
  · exact ha
  · obtain rfl := List.mem_singleton.mp hd
    exact hb
theorem vRepr_ov {d : Val} {k W : Nat} (h : OkV d k W) (hk : k ≤ 40) (hW : W ≤ 1048576) : vRepr [d] = some (.str (toD d).shown) := vRepr_ok (h.repr hk hW)
theorem szK_mem : ∀ {rs : Ros}, rs.Pairwise (fun a b => a.1 < b.1) → ∀ r ∈ rs, szK rs r.1 = r.2
  | [], _, r, h => nomatch h
  | q :: rs, hp, r, h => by
    rw [szK_cons]
    rcases List.mem_cons.mp h with rfl | h
    · rw [if_pos rfl]
    · have := (List.pairwise_cons.mp hp).1 r h
      rw [if_neg (by omega)]
      exact szK_mem (List.pairwise_cons.mp hp).2 r h
end My
end
section
set_option Elab.async false
set_option linter.all false
set_option maxRecDepth 100000
set_option maxHeartbeats 4000000
namespace My
open PySem PySem.Spec PyProof.Rows L2 XK EV
local macro_rules | `(tactic| walk_at "ev") => `(tactic| repeat (with_reducible refine WP.imp ?_))
local macro_rules | `(tactic| walk_at "ex") => `(tactic| (first | refine gx ?_ | refine ⟨_, rfl, ?_⟩))
local macro_rules | `(tactic| walk_at "go") => `(tactic| repeat (first | with_reducible refine WP.imp ?_ | refine gx ?_ | refine ⟨_, rfl, ?_⟩))
local macro_rules | `(tactic| walk_at "s") => `(tactic| first
  | with_reducible refine u_ifP ?_
  | with_reducible refine WP.imp ?_
  | refine ⟨_, fun _ => ?_, fun h => (Bool.false_ne_true h.symm).elim, fun _ _ t => t⟩
  | refine ⟨_, fun h => (Bool.false_ne_true h).elim, fun _ => ?_, fun _ _ t => t⟩
  | refine gx ?_
  | refine ⟨_, eqG_int _ _, ?_⟩
  | refine ⟨_, neG_int _ _, ?_⟩
  | refine ⟨_, eqG_txt _ _, ?_⟩
  | refine ⟨_, neG_txt _ _, ?_⟩
  | refine ⟨_, eqG_txt _ [], ?_⟩
  | refine ⟨_, neG_txt _ [], ?_⟩
  | refine ⟨_, vLen_txt (by omega), ?_⟩
  | refine ⟨_, vIx_tup 0 rfl rfl, ?_⟩
  | refine ⟨_, vIx_tup 1 rfl rfl, ?_⟩
  | refine ⟨_, vIx_tup 2 rfl rfl, ?_⟩
  | refine ⟨_, rfl, ?_⟩
  | refine And.intro (fun _ => ?_) (fun h => (Bool.false_ne_true h.symm).elim)
  | refine And.intro (fun h => (Bool.false_ne_true h).elim) (fun _ => ?_)
  | refine And.intro (fun _ => ?_) (fun h => (Bool.false_ne_true h).elim)
  | refine And.intro (fun h => (Bool.false_ne_true h.symm).elim) (fun _ => ?_)
  | refine And.intro (Nat.le_of_ble_eq_true rfl : _ ≤ 1000) ?_
  | refine And.intro (Nat.le_of_ble_eq_true rfl : _ ≤ 1000000) ?_
  | refine And.intro (by omega) ?_
  | refine And.intro (fun _ => ?_) (fun h => by exfalso; simp only [Bool.not_eq_true', Bool.not_eq_false', decide_eq_true_eq, decide_eq_false_iff_not] at h; omega)
  | refine And.intro (fun h => by exfalso; simp only [Bool.not_eq_true', Bool.not_eq_false', decide_eq_true_eq, decide_eq_false_iff_not] at h; omega) (fun _ => ?_))
local macro_rules | `(tactic| walk_at "w") => `(tactic| repeat (walk_at "s"))
--raw
theorem tru_txt {w : List Nat} (h : w.length ≤ 1000000) : truth (lnV w) = some (((w.length : Nat) : Int) != 0) := if_pos h
theorem r_check_ring {rs : Ros} {w : List Nat} (h : okR rs) (hz : okL rs w) (hw : w ≠ []) : s_check_ring [rosV rs, lnV w] = .ret .non := by
  have hl := hz.len
  have h0 : 0 < w.length := List.length_pos_iff.mpr hw
  refine go_check_ring ?_
  unfold m_check_ring
  walk_at "ev"
  refine u_ret (r_check_line h hz) ?_
  walk_at "ev"
  have hb : (((w.length : Nat) : Int) != 0) = true := bne_iff_ne.mpr (by omega)
  refine ⟨true, by rw [tru_txt (by omega), hb], (fun h => nomatch h), fun _ => ?_⟩
  walk_at "ev"
  rfl
def rot (w : List Nat) (i : Nat) : List Nat := w.drop i ++ w.take i
theorem rot_len {w : List Nat} {i : Nat} (h : i ≤ w.length) : (rot w i).length = w.length := by
  unfold rot
  rw [List.length_append, List.length_drop, List.length_take]
  omega
theorem rot_get {w : List Nat} {i e : Nat} (hi : i < w.length) (he : e < w.length) : (rot w i)[e]? = w[(i + e) % w.length]? := by
  unfold rot
  by_cases h : e < w.length - i
  · rw [List.getElem?_append_left (by rw [List.length_drop]; exact h), List.getElem?_drop, Nat.mod_eq_of_lt (by omega)]
  · rw [List.getElem?_append_right (by rw [List.length_drop]; omega), List.length_drop, List.getElem?_take_of_lt (by omega)]
    congr 1
    rw [show i + e = (e - (w.length - i)) + w.length by omega, Nat.add_mod_right, Nat.mod_eq_of_lt (by omega)]
theorem rot_ok {rs : Ros} {w : List Nat} {i : Nat} (hz : okL rs w) (hi : i ≤ w.length) : okL rs (rot w i) := ⟨by rw [rot_len hi]; exact hz.len, fun k hk => hz.mem k (by
  rcases List.mem_append.mp hk with q | q
  · exact List.mem_of_mem_drop q
  · exact List.mem_of_mem_take q)⟩
theorem rot_ne {w : List Nat} {i : Nat} (hi : i ≤ w.length) (hw : w ≠ []) : rot w i ≠ [] := fun q => hw (by
  have := rot_len hi
  rw [q] at this
  exact List.length_eq_zero_iff.mp this.symm)
theorem rot_at {w : List Nat} {i e : Nat} (hi : i < w.length) (he : e < w.length) : at0 (rot w i) e = at0 w ((i + e) % w.length) := by
  have h1 := at0_of (w := rot w i) (i := e) (by rw [rot_len (by omega)]; exact he)
  rw [rot_get hi he, at0_of (Nat.mod_lt _ (by omega))] at h1
  exact (Option.some.inj h1).symm
theorem r_turned {rs : Ros} {w : List Nat} {b : Int} {t : Nat} (h : okR rs) (hz : okL rs w) (hw : w ≠ []) (ht : (-b) % (w.length : Int) = t) : s_turned [rosV rs, lnV w, .int b] = .ret (lnV (rot w t)) := by
  have hl := hz.len
  have h0 : 0 < w.length := List.length_pos_iff.mpr hw
  have htl : t < w.length := by
    have := Int.emod_lt_of_pos (-b) (show (0 : Int) < (w.length : Nat) by omega)
    omega
  refine go_turned ?_
  unfold m_turned
  walk_at "ev"
  refine u_ret (r_check_ring h hz hw) ?_
  walk_at "ev"
  refine ⟨b, rfl, ?_⟩
  walk_at "ev"
  refine ⟨_, vLen_txt (by omega), ?_⟩
  refine ⟨_, vMod_int (by omega), ?_⟩
  rw [ht]
  walk_at "ev"
  refine ⟨_, rfl, ?_⟩
  walk_at "ev"
  refine ⟨_, vSl_n t rfl (by omega), ?_⟩
  walk_at "ev"
  refine ⟨_, rfl, ?_⟩
  refine ⟨_, vSl_0 t rfl (by omega), ?_⟩
  refine ⟨_, vAdd_txt (by rw [List.length_drop, List.length_take]; omega), ?_⟩
  rfl
/-- place i of a ring begins a crew -/
abbrev crR (rs : Ros) (w : List Nat) (i : Nat) : Bool := crB rs (rot w i) 0
abbrev crsR (rs : Ros) (w : List Nat) : List Nat := (List.range w.length).filter (crR rs w)
theorem pairs_range (n : Nat) (F : Nat → Val) : pairs ((List.range n).map F) = (List.range n).map fun i => .tup [.int (i : Nat), F i] := by
  refine List.ext_getElem? fun j => ?_
  unfold pairs
  rw [List.getElem?_zipWith, List.getElem?_map, List.getElem?_map, List.length_map, List.length_range]
  by_cases h : j < n
  · rw [List.getElem?_range h]
    rfl
  · rw [List.getElem?_eq_none (by rw [List.length_range]; omega)]
    rfl
theorem r_ring_crews_at {rs : Ros} {w : List Nat} (h : okR rs) (hz : okL rs w) (hw : w ≠ []) : s_ring_crews_at [rosV rs, lnV w] = .ret (.tup ((crsR rs w).map fun i => .int (i : Nat))) := by
  have hl := hz.len
  have h0 : 0 < w.length := List.length_pos_iff.mpr hw
  refine go_ring_crews_at ?_
  unfold m_ring_crews_at
  walk_at "ev"
  refine u_ret (r_check_ring h hz hw) ?_
  walk_at "ev"
  refine ⟨_, vDict_ros h, ?_⟩
  walk_at "ev"
  refine ⟨_, vLen_txt (by omega), ?_⟩
  walk_at "ev"
  refine ⟨_, rfl, ⟨by omega, by omega⟩, ?_⟩
  refine ⟨by rw [List.length_map, List.length_range]; show w.length ≤ _; omega, ?_⟩
  refine u_lcA (fun i : Nat => Val.int (i : Nat)) (fun i => lnV (rot w i)) (l := List.range w.length) (fun i hi => gx ?_) ?_
  · have hi := List.mem_range.mp hi
    walk_at "ev"
    refine ⟨_, rfl, ?_⟩
    walk_at "ev"
    refine u_ret (r_turned (t := i) h hz hw ?_) rfl
    rw [Int.neg_neg]
    exact Int.emod_eq_of_lt (by omega) (by omega)
  walk_at "ev"
  refine ⟨_, rfl, ?_⟩
  rw [pairs_range]
  refine ⟨by rw [List.length_map, List.length_range]; omega, ?_⟩
  refine u_lcM (fun i : Nat => Val.tup [.int (i : Nat), lnV (rot w i)]) (crR rs w) (fun i => .int (i : Nat)) (l := List.range w.length) (fun i hi => gx ⟨?_, fun _ => ?_⟩) ?_
  · have hi := List.mem_range.mp hi
    walk_at "ev"
    refine u_ret (r_is_crew_at (i := 0) h (rot_ok hz (by omega)) (by rw [rot_len (by omega)]; exact h0)) ⟨_, rfl, rfl⟩
  · walk_at "ev"
    rfl
  · walk_at "ev"
    exact ⟨_, rfl, rfl⟩
/-! a step on a ring -/
/-- where the line of a step begins -/
def fstR (n : Nat) (s : Stp) : Nat := if s.2 then s.1 else (s.1 + (n - 1)) % n
/-- the step in that line -/
def stpR (s : Stp) : Stp := if s.2 then (0, true) else (1, false)
def posR (rs : Ros) (w : List Nat) (s : Stp) : Bool := decide (s.1 < w.length) && posB rs (rot w (fstR w.length s)) (stpR s)
def aftR (rs : Ros) (w : List Nat) (s : Stp) : List Nat := rot (aft rs (rot w (fstR w.length s)) (stpR s)) ((w.length - fstR w.length s) % w.length)
theorem fst_lt {n : Nat} {s : Stp} (h : s.1 < n) : fstR n s < n := by
  unfold fstR
  split
  · exact h
  · exact Nat.mod_lt _ (by omega)
theorem fst_mod {n : Nat} {s : Stp} (h : s.1 < n) : (if s.2 then (s.1 : Int) else (s.1 : Int) - 1) % (n : Int) = (fstR n s : Nat) := by
  obtain ⟨i, b⟩ := s
  have h : i < n := h
  cases b with
  | true => exact Int.emod_eq_of_lt (by show (0 : Int) ≤ i; omega) (by show (i : Int) < n; omega)
  | false =>
    show ((i : Int) - 1) % (n : Int) = (((i + (n - 1)) % n : Nat) : Int)
    rw [Int.natCast_emod, show (((i + (n - 1) : Nat)) : Int) = (i : Int) - 1 + n by omega, Int.add_emod_right]
theorem neg_mod {x : Int} {n F : Nat} (e : x % (n : Int) = F) : (-x) % (n : Int) = (-(F : Int)) % n := by
  have h1 : -x = -(F : Int) + n * (-(x / n)) := by
    have := Int.emod_add_mul_ediv x n
    rw [e] at this
    rw [Int.mul_neg]
    omega
  rw [h1, Int.add_mul_emod_self_left]
theorem r_after_ring_step {rs : Ros} {w : List Nat} {s : Stp} (h : okR rs) (hz : okL rs w) (hw : w ≠ []) : s__after_ring_step [rosV rs, lnV w, stV s] = .ret (if posR rs w s = true then lnV (aftR rs w s) else .non) := by
  have hl := hz.len
  have h0 : 0 < w.length := List.length_pos_iff.mpr hw
  obtain ⟨i, b⟩ := s
  refine go__after_ring_step ?_
  unfold m__after_ring_step
  walk_at "w"
  refine And.intro (fun hd => ?_) (fun hd => ?_)
  · have h1 : ((w.length : Nat) : Int) ≤ (i : Nat) := of_decide_eq_true hd
    walk_at "w"
    unfold posR
    rw [decide_eq_false (show ¬ (i, b).1 < w.length by show ¬ i < _; omega), Bool.false_and]
    rfl
  have h1 : ¬ ((w.length : Nat) : Int) ≤ (i : Nat) := of_decide_eq_false hd
  have hi : i < w.length := by omega
  have hf := fst_lt (s := (i, b)) hi
  have e1 : posR rs w (i, b) = posB rs (rot w (fstR w.length (i, b))) (stpR (i, b)) := by
    unfold posR
    rw [decide_eq_true (show (i, b).1 < w.length from hi), Bool.true_and]
  have e2 := fst_mod (s := (i, b)) hi
  unfold aftR
  rw [e1]
  have hzr := rot_ok (rs := rs) hz (Nat.le_of_lt hf)
  have hrn := rot_ne (Nat.le_of_lt hf) hw
  have hrl := rot_len (Nat.le_of_lt hf)
  have back : (-(fstR w.length (i, b) : Int)) % (w.length : Int) = (((w.length - fstR w.length (i, b)) % w.length : Nat) : Int) := by
    rw [Int.natCast_emod, show (((w.length - fstR w.length (i, b) : Nat)) : Int) = -(fstR w.length (i, b) : Int) + (w.length : Int) by omega, Int.add_emod_right]
  generalize hF : fstR w.length (i, b) = F at *
  have poss := r_is_possible (s := stpR (i, b)) h hzr
  cases b with
  | true =>
    have e3 : (i : Int) % (w.length : Int) = F := e2
    have eF : F = i := by rw [← hF]; rfl
    walk_at "w"
    refine u_ret (r_turned (t := F) h hz hw (by rw [Int.neg_neg]; exact e3)) ?_
    walk_at "w"
    rw [Int.sub_self]
    refine ⟨_, vDict_ros h, ?_⟩
    walk_at "w"
    refine u_ret poss ?_
    walk_at "w"
    refine And.intro (fun hn => ?_) (fun hy => ?_)
    · have hn' : posB rs (rot w F) (stpR (i, true)) = false := by revert hn; cases posB rs (rot w F) (stpR (i, true)) <;> intro h <;> first | rfl | exact nomatch h
      walk_at "w"
      rw [hn']
      rfl
    · have hy' : posB rs (rot w F) (stpR (i, true)) = true := by revert hy; cases posB rs (rot w F) (stpR (i, true)) <;> intro h <;> first | rfl | exact nomatch h
      have hp := pos_of hy'
      have hal := aft_len hp
      walk_at "w"
      refine u_ret (r_after_step (s := stpR (i, true)) h hzr hp) ?_
      walk_at "w"
      refine u_ret (r_turned (t := (w.length - F) % w.length) h (aft_ok hzr hp) (fun q => by rw [q] at hal; simp at hal; omega) ?_) ?_
      · rw [hal, hrl, neg_mod e3, back]
      · rw [hy']
        rfl
  | false =>
    have e3 : ((i : Int) - 1) % (w.length : Int) = F := e2
    walk_at "w"
    refine u_ret (r_turned (t := F) h hz hw (by rw [Int.neg_neg]; exact e3)) ?_
    walk_at "w"
    rw [show (i : Int) - ((i : Int) - 1) = 1 by omega]
    refine ⟨_, vDict_ros h, ?_⟩
    walk_at "w"
    refine u_ret poss ?_
    walk_at "w"
    refine And.intro (fun hn => ?_) (fun hy => ?_)
    · have hn' : posB rs (rot w F) (stpR (i, false)) = false := by revert hn; cases posB rs (rot w F) (stpR (i, false)) <;> intro h <;> first | rfl | exact nomatch h
      walk_at "w"
      rw [hn']
      rfl
    · have hy' : posB rs (rot w F) (stpR (i, false)) = true := by revert hy; cases posB rs (rot w F) (stpR (i, false)) <;> intro h <;> first | rfl | exact nomatch h
      have hp := pos_of hy'
      have hal := aft_len hp
      walk_at "w"
      refine u_ret (r_after_step (s := stpR (i, false)) h hzr hp) ?_
      walk_at "w"
      refine u_ret (r_turned (t := (w.length - F) % w.length) h (aft_ok hzr hp) (fun q => by rw [q] at hal; simp at hal; omega) ?_) ?_
      · rw [hal, hrl, neg_mod e3, back]
      · rw [hy']
        rfl
end My
end
section
set_option Elab.async false
set_option linter.all false
set_option maxRecDepth 100000
set_option maxHeartbeats 4000000
namespace My
open PySem PySem.Spec PyProof.Rows L2 XK EV
local macro_rules | `(tactic| walk_at "ev") => `(tactic| repeat (with_reducible refine WP.imp ?_))
local macro_rules | `(tactic| walk_at "ex") => `(tactic| (first | refine gx ?_ | refine ⟨_, rfl, ?_⟩))
local macro_rules | `(tactic| walk_at "go") => `(tactic| repeat (first | with_reducible refine WP.imp ?_ | refine gx ?_ | refine ⟨_, rfl, ?_⟩))
local macro_rules | `(tactic| walk_at "s") => `(tactic| first
  | with_reducible refine u_ifP ?_
  | with_reducible refine WP.imp ?_
  | refine ⟨_, fun _ => ?_, fun h => (Bool.false_ne_true h.symm).elim, fun _ _ t => t⟩
  | refine ⟨_, fun h => (Bool.false_ne_true h).elim, fun _ => ?_, fun _ _ t => t⟩
  | refine gx ?_
  | refine ⟨_, eqG_int _ _, ?_⟩
  | refine ⟨_, neG_int _ _, ?_⟩
  | refine ⟨_, eqG_txt _ _, ?_⟩
  | refine ⟨_, neG_txt _ _, ?_⟩
  | refine ⟨_, eqG_txt _ [], ?_⟩
  | refine ⟨_, neG_txt _ [], ?_⟩
  | refine ⟨_, vLen_txt (by omega), ?_⟩
  | refine ⟨_, vIx_tup 0 rfl rfl, ?_⟩
  | refine ⟨_, vIx_tup 1 rfl rfl, ?_⟩
  | refine ⟨_, vIx_tup 2 rfl rfl, ?_⟩
  | refine ⟨_, rfl, ?_⟩
  | refine And.intro (fun _ => ?_) (fun h => (Bool.false_ne_true h.symm).elim)
  | refine And.intro (fun h => (Bool.false_ne_true h).elim) (fun _ => ?_)
  | refine And.intro (fun _ => ?_) (fun h => (Bool.false_ne_true h).elim)
  | refine And.intro (fun h => (Bool.false_ne_true h.symm).elim) (fun _ => ?_)
  | refine And.intro (Nat.le_of_ble_eq_true rfl : _ ≤ 1000) ?_
  | refine And.intro (Nat.le_of_ble_eq_true rfl : _ ≤ 1000000) ?_
  | refine And.intro (by omega) ?_
  | refine And.intro (fun _ => ?_) (fun h => by exfalso; simp only [Bool.not_eq_true', Bool.not_eq_false', decide_eq_true_eq, decide_eq_false_iff_not] at h; omega)
  | refine And.intro (fun h => by exfalso; simp only [Bool.not_eq_true', Bool.not_eq_false', decide_eq_true_eq, decide_eq_false_iff_not] at h; omega) (fun _ => ?_))
local macro_rules | `(tactic| walk_at "w") => `(tactic| repeat (walk_at "s"))
--raw
theorem ring_steps_go {rs : Ros} {w : List Nat} {d : Val} {pl : List Nat} (h : okR rs) (hz : okL rs w) (hw : w ≠ []) (hp : pl.length ≤ 12) (e : s_steps_to_try [rosV rs, lnV w, d] = .ret (.lst ((pl.flatMap cand).map stV))) : s_ring_steps_of [rosV rs, lnV w, d] = .ret (.tup (((pl.flatMap cand).filter (posR rs w)).map stV)) := by
  refine go_ring_steps_of ?_
  unfold m_ring_steps_of
  walk_at "ev"
  refine u_ret (r_check_ring h hz hw) ?_
  walk_at "ev"
  refine u_ret e ?_
  walk_at "ev"
  refine ⟨_, rfl, ?_⟩
  refine ⟨by rw [cand_le]; omega, ?_⟩
  refine u_lcM stV (posR rs w) stV (fun s hs => gx ⟨?_, fun _ => ?_⟩) ?_
  · walk_at "ev"
    refine u_ret (r_after_ring_step h hz hw) ?_
    walk_at "ev"
    refine ⟨_, ?_, _, rfl, rfl⟩
    cases posR rs w s <;> rfl
  · walk_at "ev"
    rfl
  · walk_at "ev"
    exact ⟨_, rfl, rfl⟩
theorem r_ring_steps_of {rs : Ros} {w : List Nat} (h : okR rs) (hz : okL rs w) (hw : w ≠ []) : s_ring_steps_of [rosV rs, lnV w, .non] = .ret (.tup ((((List.range w.length).flatMap cand).filter (posR rs w)).map stV)) :=
  ring_steps_go h hz hw (by rw [List.length_range]; exact hz.len) (r_steps_all h hz)
theorem r_ring_steps_of_k {rs : Ros} {w : List Nat} {k : Nat} (h : okR rs) (hz : okL rs w) (hw : w ≠ []) (hk : k ∈ badges rs) : s_ring_steps_of [rosV rs, lnV w, .str (txtOf [k])] = .ret (.tup (((((List.range w.length).filter fun i => decide (at0 w i = k)).flatMap cand).filter (posR rs w)).map stV)) :=
  ring_steps_go h hz hw (Nat.le_trans (List.length_filter_le ..) (by rw [List.length_range]; exact hz.len)) (r_steps_some h hz hk)
theorem r_ring_steps_odd {rs : Ros} {w : List Nat} {d : Val} (h : okR rs) (hz : okL rs w) (hw : w ≠ []) (hn : d ≠ .non) (hd : odd rs d) : s_ring_steps_of [rosV rs, lnV w, d] = .err ⟨"InvalidBadge", "badge", d⟩ := by
  refine ge_ring_steps_of ?_
  unfold m_ring_steps_of
  walk_at "ev"
  refine u_ret (r_check_ring h hz hw) ?_
  walk_at "ev"
  exact u_err (r_steps_odd h hn hd) rfl
theorem r_walk_one {rs : Ros} {w : List Nat} {s : Stp} (h : okR rs) (hz : okL rs w) (hw : w ≠ []) (hs : s.1 < 12) (hp : posR rs w s = true) : s_ring_after_walk [rosV rs, lnV w, .tup [stV s]] = .ret (lnV (aftR rs w s)) := by
  refine go_ring_after_walk ?_
  unfold m_ring_after_walk
  walk_at "ev"
  refine u_ret (r_check_ring h hz hw) ?_
  walk_at "ev"
  refine u_ret (r_check_walk (ss := [s]) (fun x hx => by obtain rfl := List.mem_singleton.mp hx; exact hs) (by simp)) ?_
  walk_at "ev"
  refine ⟨_, rfl, ?_⟩
  refine u_turns (fun k η _ => (k = 0 ∧ ∃ x3 x4, η = [some (rosV rs), some (lnV w), some (.tup [stV s]), x3, x4]) ∨ (k = 1 ∧ ∃ x3 x4, η = [some (rosV rs), some (lnV (aftR rs w s)), some (.tup [stV s]), x3, x4])) _ 0 _ _ (.inl ⟨rfl, none, none, rfl⟩) ?_ ?_
  · rintro k d η a hd (⟨hk, x3, x4, rfl⟩ | ⟨hk, _⟩)
    · obtain rfl : k = 0 := by omega
      obtain ⟨e, he, rfl⟩ := pairs_at hd
      obtain rfl : stV s = e := Option.some.inj he
      refine gx ?_
      walk_at "ev"
      refine u_ret (r_after_ring_step h hz hw) ?_
      rw [if_pos hp]
      walk_at "w"
      exact .inr ⟨by omega, _, _, rfl⟩
    · obtain rfl : k = 1 := by omega
      obtain ⟨e, he, rfl⟩ := pairs_at hd
      exact nomatch he
  · rintro η a (⟨h1, _⟩ | ⟨_, x3, x4, rfl⟩)
    · exact absurd h1 (by simp [pairs])
    · walk_at "w"
      rfl
theorem r_walk_bad {rs : Ros} {w : List Nat} {s : Stp} (h : okR rs) (hz : okL rs w) (hw : w ≠ []) (hs : s.1 < 12) (hp : posR rs w s = false) : s_ring_after_walk [rosV rs, lnV w, .tup [stV s]] = .err ⟨"NotPossible", "index", .int 0⟩ := by
  refine ge_ring_after_walk ?_
  unfold m_ring_after_walk
  walk_at "ev"
  refine u_ret (r_check_ring h hz hw) ?_
  walk_at "ev"
  refine u_ret (r_check_walk (ss := [s]) (fun x hx => by obtain rfl := List.mem_singleton.mp hx; exact hs) (by simp)) ?_
  walk_at "ev"
  refine ⟨_, rfl, ?_⟩
  refine u_turns (fun k η _ => k = 0 ∧ ∃ x3 x4, η = [some (rosV rs), some (lnV w), some (.tup [stV s]), x3, x4]) _ 0 _ _ ⟨rfl, none, none, rfl⟩ ?_ ?_
  · rintro k d η a hd ⟨hk, x3, x4, rfl⟩
    obtain rfl : k = 0 := by omega
    obtain ⟨e, he, rfl⟩ := pairs_at hd
    obtain rfl : stV s = e := Option.some.inj he
    refine gx ?_
    walk_at "ev"
    refine u_ret (r_after_ring_step h hz hw) ?_
    rw [if_neg (by rw [hp]; decide)]
    walk_at "w"
    rfl
  · rintro η a ⟨h1, _⟩
    exact absurd h1 (by simp [pairs])
end My
end
section
set_option Elab.async false
set_option linter.all false
set_option maxRecDepth 100000
set_option maxHeartbeats 4000000
namespace My
open PySem PySem.Spec PyProof.Rows L2 XK EV
local macro_rules | `(tactic| walk_at "ev") => `(tactic| repeat (with_reducible refine WP.imp ?_))
local macro_rules | `(tactic| walk_at "ex") => `(tactic| (first | refine gx ?_ | refine ⟨_, rfl, ?_⟩))
local macro_rules | `(tactic| walk_at "go") => `(tactic| repeat (first | with_reducible refine WP.imp ?_ | refine gx ?_ | refine ⟨_, rfl, ?_⟩))
local macro_rules | `(tactic| walk_at "s") => `(tactic| first
  | with_reducible refine u_ifP ?_
  | with_reducible refine WP.imp ?_
  | refine ⟨_, fun _ => ?_, fun h => (Bool.false_ne_true h.symm).elim, fun _ _ t => t⟩
  | refine ⟨_, fun h => (Bool.false_ne_true h).elim, fun _ => ?_, fun _ _ t => t⟩
  | refine gx ?_
  | refine ⟨_, eqG_int _ _, ?_⟩
  | refine ⟨_, neG_int _ _, ?_⟩
  | refine ⟨_, eqG_txt _ _, ?_⟩
  | refine ⟨_, neG_txt _ _, ?_⟩
  | refine ⟨_, eqG_txt _ [], ?_⟩
  | refine ⟨_, neG_txt _ [], ?_⟩
  | refine ⟨_, vLen_txt (by omega), ?_⟩
  | refine ⟨_, vIx_tup 0 rfl rfl, ?_⟩
  | refine ⟨_, vIx_tup 1 rfl rfl, ?_⟩
  | refine ⟨_, vIx_tup 2 rfl rfl, ?_⟩
  | refine ⟨_, rfl, ?_⟩
  | refine And.intro (fun _ => ?_) (fun h => (Bool.false_ne_true h.symm).elim)
  | refine And.intro (fun h => (Bool.false_ne_true h).elim) (fun _ => ?_)
  | refine And.intro (fun _ => ?_) (fun h => (Bool.false_ne_true h).elim)
  | refine And.intro (fun h => (Bool.false_ne_true h.symm).elim) (fun _ => ?_)
  | refine And.intro (Nat.le_of_ble_eq_true rfl : _ ≤ 1000) ?_
  | refine And.intro (Nat.le_of_ble_eq_true rfl : _ ≤ 1000000) ?_
  | refine And.intro (by omega) ?_
  | refine And.intro (fun _ => ?_) (fun h => by exfalso; simp only [Bool.not_eq_true', Bool.not_eq_false', decide_eq_true_eq, decide_eq_false_iff_not] at h; omega)
  | refine And.intro (fun h => by exfalso; simp only [Bool.not_eq_true', Bool.not_eq_false', decide_eq_true_eq, decide_eq_false_iff_not] at h; omega) (fun _ => ?_))
local macro_rules | `(tactic| walk_at "w") => `(tactic| repeat (walk_at "s"))
theorem ixN_at {n j : Nat} (hj : j < n) : ixN n (j : Int) = some j := by
  unfold ixN
  rw [if_pos (by omega), if_pos (by omega)]
  simp
theorem cr_iff {rs : Ros} {w : List Nat} {i : Nat} (h0 : 0 < szA rs w i) (h1 : i + szA rs w i ≤ w.length) : crB rs w i = true ↔ ∀ j, j < szA rs w i → at0 w (i + j) = at0 w i := by
  unfold crB
  rw [decide_eq_true h0, Bool.true_and, decide_eq_true_iff, List.eq_replicate_iff]
  constructor
  · rintro ⟨_, h⟩ j hj
    refine h _ (List.mem_of_getElem? (i := j) ?_)
    rw [List.getElem?_take_of_lt hj, List.getElem?_drop]
    exact at0_of (by omega)
  · intro h
    walk_at "ev"
    refine ⟨by rw [List.length_take, List.length_drop]; omega, fun b hb => ?_⟩
    obtain ⟨j, hj, e⟩ := List.mem_iff_getElem.mp hb
    have hj' : j < szA rs w i := by rw [List.length_take] at hj; omega
    have e' : ((w.drop i).take (szA rs w i))[j]? = some b := by rw [List.getElem?_eq_getElem hj, e]
    rw [List.getElem?_take_of_lt hj', List.getElem?_drop, at0_of (by omega)] at e'
    rw [← Option.some.inj e']
    exact h j hj'
def sgV (k : Nat) : Val := .str (txtOf [k])
def fill (w : List Nat) (a s k : Nat) : List Nat := w.take a ++ List.replicate s k ++ w.drop (a + s)
theorem fill_0 (w : List Nat) (a k : Nat) : fill w a 0 k = w := by
  unfold fill
  rw [List.replicate_zero, List.append_nil, Nat.add_zero, List.take_append_drop]
theorem fill_len {w : List Nat} {a s k : Nat} (h : a + s ≤ w.length) : (fill w a s k).length = w.length := by
  unfold fill
  simp only [List.length_append, List.length_take, List.length_replicate, List.length_drop]
  omega
theorem fill_set {w : List Nat} {a s k : Nat} (h : a + s < w.length) : (fill w a s k).set (a + s) k = fill w a (s + 1) k := by
  unfold fill
  have h1 : (w.take a ++ List.replicate s k).length = a + s := by
    simp only [List.length_append, List.length_take, List.length_replicate]
    omega
  rw [List.set_append_right _ _ (by omega), h1, Nat.sub_self, List.drop_eq_getElem_cons h, List.set_cons_zero, List.replicate_succ', ← List.append_assoc (w.take a), List.append_assoc _ [k]]
  walk_at "ev"
  rfl
theorem right_eq {w : List Nat} {i s k x : Nat} (h : i + s < w.length) : (fill w (i + 1) s k).set i x = w.take i ++ [x] ++ List.replicate s k ++ w.drop (i + s + 1) := by
  unfold fill
  rw [List.take_succ, List.getElem?_eq_getElem (by omega : i < w.length)]
  have h1 : (w.take i).length = i := by rw [List.length_take]; omega
  rw [List.append_assoc, List.append_assoc, List.set_append_right _ _ (by omega), h1, Nat.sub_self]
  simp only [Option.toList, List.cons_append, List.nil_append, List.set_cons_zero, List.append_assoc]
  rw [show i + 1 + s = i + s + 1 by omega]
theorem left_eq {w : List Nat} {i s k x : Nat} (h0 : 0 < i) (hs : 0 < s) (h : i + s ≤ w.length) : (fill w (i - 1) s k).set (i + s - 1) x = w.take (i - 1) ++ List.replicate s k ++ [x] ++ w.drop (i + s) := by
  unfold fill
  have h1 : (w.take (i - 1) ++ List.replicate s k).length = i + s - 1 := by
    simp only [List.length_append, List.length_take, List.length_replicate]
    omega
  rw [List.set_append_right _ _ (by omega), h1, Nat.sub_self, show i - 1 + s = i + s - 1 by omega, List.drop_eq_getElem_cons (by omega : i + s - 1 < w.length), List.set_cons_zero, show i + s - 1 + 1 = i + s by omega]
  simp only [List.append_assoc, List.cons_append, List.nil_append]
theorem vJoin_sg {w : List Nat} (h : w.length ≤ 1000000) : vJoin "" (.lst (w.map sgV)) = some (.str (txtOf w)) := vJoin_signs h
theorem set_sg (w : List Nat) (u k : Nat) : (w.map sgV).set u (sgV k) = (w.set u k).map sgV := List.map_set.symm
end My
end
section
set_option Elab.async false
set_option linter.all false
set_option maxRecDepth 100000
set_option maxHeartbeats 4000000
namespace My
open PySem PySem.Spec PyProof.Rows L2 XK EV
local macro_rules | `(tactic| walk_at "ev") => `(tactic| repeat (with_reducible refine WP.imp ?_))
local macro_rules | `(tactic| walk_at "ex") => `(tactic| (first | refine gx ?_ | refine ⟨_, rfl, ?_⟩))
local macro_rules | `(tactic| walk_at "go") => `(tactic| repeat (first | with_reducible refine WP.imp ?_ | refine gx ?_ | refine ⟨_, rfl, ?_⟩))
local macro_rules | `(tactic| walk_at "s") => `(tactic| first
  | with_reducible refine u_ifP ?_
  | with_reducible refine WP.imp ?_
  | refine ⟨_, fun _ => ?_, fun h => (Bool.false_ne_true h.symm).elim, fun _ _ t => t⟩
  | refine ⟨_, fun h => (Bool.false_ne_true h).elim, fun _ => ?_, fun _ _ t => t⟩
  | refine gx ?_
  | refine ⟨_, eqG_int _ _, ?_⟩
  | refine ⟨_, neG_int _ _, ?_⟩
  | refine ⟨_, eqG_txt _ _, ?_⟩
  | refine ⟨_, neG_txt _ _, ?_⟩
  | refine ⟨_, eqG_txt _ [], ?_⟩
  | refine ⟨_, neG_txt _ [], ?_⟩
  | refine ⟨_, vLen_txt (by omega), ?_⟩
  | refine ⟨_, vIx_tup 0 rfl rfl, ?_⟩
  | refine ⟨_, vIx_tup 1 rfl rfl, ?_⟩
  | refine ⟨_, vIx_tup 2 rfl rfl, ?_⟩
  | refine ⟨_, rfl, ?_⟩
  | refine And.intro (fun _ => ?_) (fun h => (Bool.false_ne_true h.symm).elim)
  | refine And.intro (fun h => (Bool.false_ne_true h).elim) (fun _ => ?_)
  | refine And.intro (fun _ => ?_) (fun h => (Bool.false_ne_true h).elim)
  | refine And.intro (fun h => (Bool.false_ne_true h.symm).elim) (fun _ => ?_)
  | refine And.intro (Nat.le_of_ble_eq_true rfl : _ ≤ 1000) ?_
  | refine And.intro (Nat.le_of_ble_eq_true rfl : _ ≤ 1000000) ?_
  | refine And.intro (by omega) ?_
  | refine And.intro (fun _ => ?_) (fun h => by exfalso; simp only [Bool.not_eq_true', Bool.not_eq_false', decide_eq_true_eq, decide_eq_false_iff_not] at h; omega)
  | refine And.intro (fun h => by exfalso; simp only [Bool.not_eq_true', Bool.not_eq_false', decide_eq_true_eq, decide_eq_false_iff_not] at h; omega) (fun _ => ?_))
local macro_rules | `(tactic| walk_at "w") => `(tactic| repeat (walk_at "s"))
--raw
theorem modc {F e n : Nat} (hF : F < n) (he : e < n) : (F + e) % n = if F + e < n then F + e else F + e - n := by
  split
  · rename_i h
    exact Nat.mod_eq_of_lt h
  · rw [Nat.mod_eq_sub_mod (by omega), Nat.mod_eq_of_lt (by omega)]
theorem rot_set {M : List Nat} {F e v : Nat} (hF : F < M.length) (he : e < M.length) : rot (M.set ((F + e) % M.length) v) F = (rot M F).set e v := by
  have l1 : (rot (M.set ((F + e) % M.length) v) F).length = M.length := by rw [rot_len (by rw [List.length_set]; omega), List.length_set]
  refine List.ext_getElem? fun j => ?_
  by_cases hj : j < M.length
  · have h1 := rot_get (w := M.set ((F + e) % M.length) v) (i := F) (e := j) (by rw [List.length_set]; exact hF) (by rw [List.length_set]; exact hj)
    rw [h1, List.length_set, List.getElem?_set, List.getElem?_set, rot_len (by omega), rot_get hF hj]
    by_cases hej : e = j
    · subst hej
      rw [if_pos rfl, if_pos rfl, if_pos (Nat.mod_lt _ (by omega)), if_pos he]
    · rw [if_neg hej, if_neg]
      rw [modc hF he, modc hF hj]
      split <;> split <;> omega
  · rw [List.getElem?_eq_none (by rw [l1]; omega), List.getElem?_eq_none (by rw [List.length_set, rot_len (by omega)]; omega)]
theorem rot_back {M : List Nat} {F : Nat} (hF : F < M.length) : rot (rot M F) ((M.length - F) % M.length) = M := by
  have l1 : (rot M F).length = M.length := rot_len (by omega)
  have l2 : (M.length - F) % M.length < M.length := Nat.mod_lt _ (by omega)
  refine List.ext_getElem? fun j => ?_
  by_cases hj : j < M.length
  · rw [rot_get (by rw [l1]; exact l2) (by rw [l1]; exact hj), l1, rot_get hF (Nat.mod_lt _ (by omega))]
    congr 1
    by_cases h0 : F = 0
    · subst h0
      rw [Nat.sub_zero, Nat.mod_self, Nat.zero_add, Nat.zero_add, Nat.mod_mod, Nat.mod_eq_of_lt hj]
    · have e1 : (M.length - F) % M.length = M.length - F := Nat.mod_eq_of_lt (by omega)
      rw [e1, modc (by omega) hj]
      split
      · rw [show F + (M.length - F + j) = j + M.length by omega, Nat.add_mod_right, Nat.mod_eq_of_lt hj]
      · rw [show F + (M.length - F + j - M.length) = j by omega, Nat.mod_eq_of_lt hj]
  · rw [List.getElem?_eq_none (by rw [rot_len (by rw [l1]; omega), l1]; omega), List.getElem?_eq_none (by omega)]
/-! the crew at a place, by the law -/
theorem rot_0 {w : List Nat} {i : Nat} (hi : i < w.length) : at0 (rot w i) 0 = at0 w i := by
  rw [rot_at hi (by omega), Nat.add_zero, Nat.mod_eq_of_lt hi]
theorem crR_iff {rs : Ros} {w : List Nat} {i : Nat} (hi : i < w.length) : crR rs w i = true ↔ 0 < szA rs w i ∧ szA rs w i ≤ w.length ∧ ∀ j, j < szA rs w i → at0 w ((i + j) % w.length) = at0 w i := by
  have es : szA rs (rot w i) 0 = szA rs w i := by unfold szA; rw [rot_0 hi]
  have hl : (rot w i).length = w.length := rot_len (by omega)
  constructor
  · intro h
    obtain ⟨h1, h2, _⟩ := cr_len h (by rw [hl]; omega)
    have h3 := (cr_iff h1 h2).mp h
    rw [es] at h1 h2 h3
    rw [hl] at h2
    refine ⟨h1, by omega, fun j hj => ?_⟩
    have := h3 j hj
    rw [Nat.zero_add, rot_at hi (by omega), rot_0 hi] at this
    exact this
  · rintro ⟨h1, h2, h3⟩
    refine (cr_iff (by rw [es]; exact h1) (by rw [es, hl]; omega)).mpr fun j hj => ?_
    rw [es] at hj
    rw [Nat.zero_add, rot_at hi (by omega), rot_0 hi]
    exact h3 j hj
theorem r_law_crew {rs : Ros} {w : List Nat} {i : Nat} (h : okR rs) (hz : okL rs w) (hi : i < w.length) : s__law_crew [dicV rs, lnV w, .int (i : Nat)] = .ret (.int ((if crR rs w i = true then szA rs w i else 0 : Nat) : Int)) := by
  have hl := hz.len
  have h5 : szA rs w i ≤ 5 := szK_le h.ok (at0 w i)
  refine go__law_crew ?_
  unfold m__law_crew
  walk_at "w"
  refine ⟨_, vIx_txt i rfl (at0_of hi) (by omega), ?_⟩
  refine ⟨_, vGet_sz (hz.mem _ (at0_mem hi)), ?_⟩
  walk_at "w"
  show And _ _
  refine And.intro (fun hd => ?_) (fun hd => ?_)
  · have h1 : ((w.length : Nat) : Int) < (szA rs w i : Nat) := of_decide_eq_true hd
    walk_at "w"
    rw [if_neg (fun q => by have := ((crR_iff hi).mp q).2.1; omega)]
    rfl
  have h1 : ¬ ((w.length : Nat) : Int) < (szA rs w i : Nat) := of_decide_eq_false hd
  walk_at "w"
  have h1' : szA rs w i ≤ w.length := by omega
  refine ⟨⟨by show ((szA rs w i : Nat) : Int) ≤ _; omega, by show _ ≤ ((szA rs w i : Nat) : Int); omega⟩, ?_⟩
  refine u_turnsM (fun j : Nat => Val.int (j : Nat)) (fun k η _ => (∃ x5, η = [some (dicV rs), some (lnV w), some (.int (i : Nat)), some (.int (szA rs w i : Nat)), some (.int (w.length : Nat)), x5]) ∧ ∀ j, j < k → at0 w ((i + j) % w.length) = at0 w i) (List.range (szA rs w i)) ⟨⟨none, rfl⟩, fun j hj => absurd hj (Nat.not_lt_zero j)⟩ ?_ ?_
  · rintro k x η a hx ⟨⟨x5, rfl⟩, hall⟩
    obtain ⟨hk1, hk2⟩ := List.getElem?_eq_some_iff.mp hx
    rw [List.getElem_range] at hk2
    subst hk2
    rw [List.length_range] at hk1
    refine gx ?_
    walk_at "w"
    rw [show (i : Int) + (k : Int) = ((i + k : Nat) : Int) by push_cast; rfl]
    refine ⟨_, vMod_nat (by omega), ?_⟩
    refine ⟨_, vIx_txt ((i + k) % w.length) rfl (at0_of (Nat.mod_lt _ (by omega))) (by omega), ?_⟩
    walk_at "w"
    refine ⟨_, vIx_txt i rfl (at0_of hi) (by omega), ?_⟩
    refine ⟨_, neG_txt _ _, ?_⟩
    rw [one_decide]
    by_cases hq : at0 w ((i + k) % w.length) = at0 w i
    · rw [decide_eq_true hq]
      walk_at "w"
      refine ⟨⟨_, rfl⟩, fun j hj => ?_⟩
      rcases Nat.lt_succ_iff_lt_or_eq.mp hj with hj | rfl
      · exact hall j hj
      · exact hq
    · rw [decide_eq_false hq]
      walk_at "w"
      rw [if_neg (fun q => hq (((crR_iff hi).mp q).2.2 k hk1))]
      rfl
  · rintro η a ⟨⟨x5, rfl⟩, hall⟩
    rw [List.length_range] at hall
    walk_at "w"
    by_cases h0 : szA rs w i = 0
    · rw [if_neg (fun q => by have := ((crR_iff hi).mp q).1; omega)]
      show Val.int _ = _
      rw [h0]
    · rw [if_pos ((crR_iff hi).mpr ⟨by omega, h1', hall⟩)]
      rfl
end My
end
section
set_option Elab.async false
set_option linter.all false
set_option maxRecDepth 100000
set_option maxHeartbeats 4000000
namespace My
open PySem PySem.Spec PyProof.Rows L2 XK EV
local macro_rules | `(tactic| walk_at "ev") => `(tactic| repeat (with_reducible refine WP.imp ?_))
local macro_rules | `(tactic| walk_at "ex") => `(tactic| (first | refine gx ?_ | refine ⟨_, rfl, ?_⟩))
local macro_rules | `(tactic| walk_at "go") => `(tactic| repeat (first | with_reducible refine WP.imp ?_ | refine gx ?_ | refine ⟨_, rfl, ?_⟩))
local macro_rules | `(tactic| walk_at "s") => `(tactic| first
  | with_reducible refine u_ifP ?_
  | with_reducible refine WP.imp ?_
  | refine ⟨_, fun _ => ?_, fun h => (Bool.false_ne_true h.symm).elim, fun _ _ t => t⟩
  | refine ⟨_, fun h => (Bool.false_ne_true h).elim, fun _ => ?_, fun _ _ t => t⟩
  | refine gx ?_
  | refine ⟨_, eqG_int _ _, ?_⟩
  | refine ⟨_, neG_int _ _, ?_⟩
  | refine ⟨_, eqG_txt _ _, ?_⟩
  | refine ⟨_, neG_txt _ _, ?_⟩
  | refine ⟨_, eqG_txt _ [], ?_⟩
  | refine ⟨_, neG_txt _ [], ?_⟩
  | refine ⟨_, vLen_txt (by omega), ?_⟩
  | refine ⟨_, vIx_tup 0 rfl rfl, ?_⟩
  | refine ⟨_, vIx_tup 1 rfl rfl, ?_⟩
  | refine ⟨_, vIx_tup 2 rfl rfl, ?_⟩
  | refine ⟨_, rfl, ?_⟩
  | refine And.intro (fun _ => ?_) (fun h => (Bool.false_ne_true h.symm).elim)
  | refine And.intro (fun h => (Bool.false_ne_true h).elim) (fun _ => ?_)
  | refine And.intro (fun _ => ?_) (fun h => (Bool.false_ne_true h).elim)
  | refine And.intro (fun h => (Bool.false_ne_true h.symm).elim) (fun _ => ?_)
  | refine And.intro (Nat.le_of_ble_eq_true rfl : _ ≤ 1000) ?_
  | refine And.intro (Nat.le_of_ble_eq_true rfl : _ ≤ 1000000) ?_
  | refine And.intro (by omega) ?_
  | refine And.intro (fun _ => ?_) (fun h => by exfalso; simp only [Bool.not_eq_true', Bool.not_eq_false', decide_eq_true_eq, decide_eq_false_iff_not] at h; omega)
  | refine And.intro (fun h => by exfalso; simp only [Bool.not_eq_true', Bool.not_eq_false', decide_eq_true_eq, decide_eq_false_iff_not] at h; omega) (fun _ => ?_))
local macro_rules | `(tactic| walk_at "w") => `(tactic| repeat (walk_at "s"))
--raw
def goalR (n sz : Nat) (s : Stp) : Nat := if s.2 then (s.1 + sz) % n else (s.1 + (n - 1)) % n
theorem fst_next {n i : Nat} (hi : i < n) : (fstR n (i, false) + 1) % n = i := by
  show ((i + (n - 1)) % n + 1) % n = i
  rw [Nat.mod_add_mod, show i + (n - 1) + 1 = i + n by omega, Nat.add_mod_right, Nat.mod_eq_of_lt hi]
theorem posR_iff {rs : Ros} {w : List Nat} {s : Stp} (hi : s.1 < w.length) : posR rs w s = true ↔ crR rs w s.1 = true ∧ szA rs w s.1 < w.length ∧ at0 w (goalR w.length (szA rs w s.1) s) ≠ at0 w s.1 := by
  obtain ⟨i, b⟩ := s
  have hi : i < w.length := hi
  have hf := fst_lt (s := (i, b)) hi
  unfold posR
  rw [decide_eq_true (show (i, b).1 < w.length from hi), Bool.true_and]
  cases b with
  | true =>
    have es : szA rs (rot w i) 0 = szA rs w i := by unfold szA; rw [rot_0 hi]
    have hl : (rot w i).length = w.length := rot_len (by omega)
    show posB rs (rot w i) (0, true) = true ↔ crB rs (rot w i) 0 = true ∧ szA rs w i < w.length ∧ at0 w ((i + szA rs w i) % w.length) ≠ at0 w i
    unfold posB
    simp only [Nat.zero_add, if_true, Bool.and_eq_true, decide_eq_true_eq, Bool.not_eq_true', decide_eq_false_iff_not, es, hl, rot_0 hi]
    constructor
    · rintro ⟨_, h1, h2, h3⟩
      rw [rot_at hi h2] at h3
      exact ⟨h1, h2, h3⟩
    · rintro ⟨h1, h2, h3⟩
      rw [rot_at hi h2]
      exact ⟨by omega, h1, h2, h3⟩
  | false =>
    have hn : (fstR w.length (i, false) + 1) % w.length = i := fst_next hi
    generalize hF : fstR w.length (i, false) = F at *
    have eF : (i + (w.length - 1)) % w.length = F := hF
    have hl : (rot w F).length = w.length := rot_len (by omega)
    show posB rs (rot w F) (1, false) = true ↔ crR rs w i = true ∧ szA rs w i < w.length ∧ at0 w ((i + (w.length - 1)) % w.length) ≠ at0 w i
    rw [eF, crR_iff (i := i) hi]
    by_cases h1n : 1 < w.length
    · have e1 : at0 (rot w F) 1 = at0 w i := by rw [rot_at hf h1n, hn]
      have e0 : at0 (rot w F) 0 = at0 w F := rot_0 hf
      have es : szA rs (rot w F) 1 = szA rs w i := by unfold szA; rw [e1]
      have ej : ∀ j, 1 + j < w.length → at0 (rot w F) (1 + j) = at0 w ((i + j) % w.length) := fun j hj => by
        rw [rot_at hf hj, show F + (1 + j) = F + 1 + j by omega, ← Nat.mod_add_mod, hn]
      unfold posB
      simp only [Bool.false_eq_true, if_false, Bool.and_eq_true, decide_eq_true_eq, Bool.not_eq_true', decide_eq_false_iff_not, Nat.sub_self, hl, e0, e1]
      constructor
      · rintro ⟨_, h2, _, h3⟩
        obtain ⟨c1, c2, _⟩ := cr_len h2 (by rw [hl]; exact h1n)
        have c3 := (cr_iff c1 c2).mp h2
        rw [es] at c1 c2 c3
        rw [hl] at c2
        refine ⟨⟨c1, by omega, fun j hj => ?_⟩, by omega, h3⟩
        rw [← ej j (by omega), c3 j hj, e1]
      · rintro ⟨⟨c1, _, c3⟩, c2, h3⟩
        refine ⟨h1n, (cr_iff (by rw [es]; exact c1) (by rw [es, hl]; omega)).mpr fun j hj => ?_, by decide, h3⟩
        rw [es] at hj
        rw [ej j (by omega), c3 j hj, e1]
    · have hw1 : w.length = 1 := by omega
      constructor
      · intro hp
        unfold posB at hp
        rw [hl, decide_eq_false (show ¬ (1, false).1 < w.length from h1n), Bool.false_and] at hp
        exact nomatch hp
      · rintro ⟨⟨c1, _⟩, c2, _⟩
        omega
/-- the list that the law fills in, in the line of the step -/
def offR (s : Stp) : Nat := if s.2 then 1 else 0
theorem aft_fill {rs : Ros} {w : List Nat} {s : Stp} (hi : s.1 < w.length) (hp : posR rs w s = true) :
    aft rs (rot w (fstR w.length s)) (stpR s) = (fill (rot w (fstR w.length s)) (offR s) (szA rs w s.1) (at0 w s.1)).set (if s.2 then 0 else szA rs w s.1) (at0 w (goalR w.length (szA rs w s.1) s)) := by
  obtain ⟨hc, hs, _⟩ := (posR_iff hi).mp hp
  obtain ⟨c1, _, _⟩ := (crR_iff hi).mp hc
  have hpb : posB rs (rot w (fstR w.length s)) (stpR s) = true := by
    unfold posR at hp
    exact (Bool.and_eq_true _ _ ▸ hp).2
  obtain ⟨i, b⟩ := s
  have hi : i < w.length := hi
  have hf := fst_lt (s := (i, b)) hi
  have hl : (rot w (fstR w.length (i, b))).length = w.length := rot_len (by omega)
  have hs : szA rs w i < w.length := hs
  have c1 : 0 < szA rs w i := c1
  obtain ⟨p1, p2, p3, p4, _⟩ := pos_of hpb
  obtain ⟨_, _, p5⟩ := cr_len p4 p1
  cases b with
  | true =>
    have es : szA rs (rot w i) 0 = szA rs w i := by unfold szA; rw [rot_0 hi]
    have p5 : ((rot w i).drop 0).take (szA rs (rot w i) 0) = List.replicate (szA rs (rot w i) 0) (at0 (rot w i) 0) := p5
    rw [es, rot_0 hi] at p5
    show aft rs (rot w i) (0, true) = (fill (rot w i) (0 + 1) (szA rs w i) (at0 w i)).set 0 (at0 w ((i + szA rs w i) % w.length))
    have hl : (rot w i).length = w.length := hl
    rw [right_eq (by rw [hl]; omega)]
    unfold aft
    rw [if_pos rfl]
    show (rot w i).take 0 ++ [at0 (rot w i) (0 + szA rs (rot w i) 0)] ++ ((rot w i).drop 0).take (szA rs (rot w i) 0) ++ (rot w i).drop (0 + szA rs (rot w i) 0 + 1) = _
    rw [es, p5, Nat.zero_add, rot_at hi hs]
  | false =>
    have hn : (fstR w.length (i, false) + 1) % w.length = i := fst_next hi
    generalize hF : fstR w.length (i, false) = F at *
    have h1n : 1 < w.length := by rw [← hl]; exact p1
    have e1 : at0 (rot w F) 1 = at0 w i := by rw [rot_at hf h1n, hn]
    have es : szA rs (rot w F) 1 = szA rs w i := by unfold szA; rw [e1]
    have p5 : ((rot w F).drop 1).take (szA rs (rot w F) 1) = List.replicate (szA rs (rot w F) 1) (at0 (rot w F) 1) := p5
    rw [es, e1] at p5
    show aft rs (rot w F) (1, false) = (fill (rot w F) (1 - 1) (szA rs w i) (at0 w i)).set (szA rs w i) (at0 w (fstR w.length (i, false)))
    have := left_eq (w := rot w F) (i := 1) (s := szA rs w i) (k := at0 w i) (x := at0 w F) (by decide) c1 (by rw [hl]; omega)
    rw [show 1 + szA rs w i - 1 = szA rs w i by omega] at this
    rw [hF, this]
    unfold aft
    rw [if_neg Bool.false_ne_true]
    show (rot w F).take (1 - 1) ++ ((rot w F).drop 1).take (szA rs (rot w F) 1) ++ [at0 (rot w F) (1 - 1)] ++ (rot w F).drop (1 + szA rs (rot w F) 1) = _
    rw [es, p5, Nat.sub_self, rot_0 hf]
end My
end
section
set_option Elab.async false
set_option linter.all false
set_option maxRecDepth 100000
set_option maxHeartbeats 4000000
namespace My
open PySem PySem.Spec PyProof.Rows L2 XK EV
local macro_rules | `(tactic| walk_at "ev") => `(tactic| repeat (with_reducible refine WP.imp ?_))
local macro_rules | `(tactic| walk_at "ex") => `(tactic| (first | refine gx ?_ | refine ⟨_, rfl, ?_⟩))
local macro_rules | `(tactic| walk_at "go") => `(tactic| repeat (first | with_reducible refine WP.imp ?_ | refine gx ?_ | refine ⟨_, rfl, ?_⟩))
local macro_rules | `(tactic| walk_at "s") => `(tactic| first
  | with_reducible refine u_ifP ?_
  | with_reducible refine WP.imp ?_
  | refine ⟨_, fun _ => ?_, fun h => (Bool.false_ne_true h.symm).elim, fun _ _ t => t⟩
  | refine ⟨_, fun h => (Bool.false_ne_true h).elim, fun _ => ?_, fun _ _ t => t⟩
  | refine gx ?_
  | refine ⟨_, eqG_int _ _, ?_⟩
  | refine ⟨_, neG_int _ _, ?_⟩
  | refine ⟨_, eqG_txt _ _, ?_⟩
  | refine ⟨_, neG_txt _ _, ?_⟩
  | refine ⟨_, eqG_txt _ [], ?_⟩
  | refine ⟨_, neG_txt _ [], ?_⟩
  | refine ⟨_, vLen_txt (by omega), ?_⟩
  | refine ⟨_, vIx_tup 0 rfl rfl, ?_⟩
  | refine ⟨_, vIx_tup 1 rfl rfl, ?_⟩
  | refine ⟨_, vIx_tup 2 rfl rfl, ?_⟩
  | refine ⟨_, rfl, ?_⟩
  | refine And.intro (fun _ => ?_) (fun h => (Bool.false_ne_true h.symm).elim)
  | refine And.intro (fun h => (Bool.false_ne_true h).elim) (fun _ => ?_)
  | refine And.intro (fun _ => ?_) (fun h => (Bool.false_ne_true h).elim)
  | refine And.intro (fun h => (Bool.false_ne_true h.symm).elim) (fun _ => ?_)
  | refine And.intro (Nat.le_of_ble_eq_true rfl : _ ≤ 1000) ?_
  | refine And.intro (Nat.le_of_ble_eq_true rfl : _ ≤ 1000000) ?_
  | refine And.intro (by omega) ?_
  | refine And.intro (fun _ => ?_) (fun h => by exfalso; simp only [Bool.not_eq_true', Bool.not_eq_false', decide_eq_true_eq, decide_eq_false_iff_not] at h; omega)
  | refine And.intro (fun h => by exfalso; simp only [Bool.not_eq_true', Bool.not_eq_false', decide_eq_true_eq, decide_eq_false_iff_not] at h; omega) (fun _ => ?_))
local macro_rules | `(tactic| walk_at "w") => `(tactic| repeat (walk_at "s"))
--raw
theorem idx_off {n i k F : Nat} {b : Bool} (e : (if b then (i : Int) else (i : Int) - 1) % (n : Int) = (F : Nat)) : ((i : Int) + k + (if b then 1 else -1)) % (n : Int) = (((F + (offR (i, b) + k)) % n : Nat) : Int) := by
  rw [Int.natCast_emod, Int.natCast_add, ← e, Int.emod_add_emod]
  congr 1
  cases b with
  | true => show (i : Int) + k + 1 = i + ((1 + k : Nat) : Int); omega
  | false => show (i : Int) + k + -1 = i - 1 + ((0 + k : Nat) : Int); omega
theorem idx_end {n i F s : Nat} (e : ((i : Int) - 1) % (n : Int) = (F : Nat)) : ((i : Int) + s - 1) % (n : Int) = (((F + s) % n : Nat) : Int) := by
  rw [Int.natCast_emod, Int.natCast_add, ← e, Int.emod_add_emod]
  congr 1
  omega
def movR (rs : Ros) (w : List Nat) (s : Stp) : List Nat := if posR rs w s = true then aftR rs w s else []
theorem mov_no {rs : Ros} {w : List Nat} {s : Stp} (h : ¬ posR rs w s = true) : lnV (movR rs w s) = .str "" := by
  unfold movR
  rw [if_neg h]
  rfl
theorem r_law_moved {rs : Ros} {w : List Nat} {s : Stp} (h : okR rs) (hz : okL rs w) (hw : w ≠ []) : s__law_moved [dicV rs, lnV w, stV s] = .ret (lnV (movR rs w s)) := by
  have hl := hz.len
  have h0 : 0 < w.length := List.length_pos_iff.mpr hw
  obtain ⟨i, b⟩ := s
  have h5 : szA rs w i ≤ 5 := szK_le h.ok (at0 w i)
  refine go__law_moved ?_
  unfold m__law_moved
  walk_at "w"
  obtain ⟨SZ, hSZ⟩ : ∃ SZ : Nat, SZ = if i < w.length ∧ crR rs w i = true then szA rs w i else 0 := ⟨_, rfl⟩
  refine ⟨fun d _ => d = .int (SZ : Nat), fun hd => ?_, fun hd => ?_, ?_⟩
  · have hi : (i : Int) < (w.length : Nat) := of_decide_eq_true hd
    have hi : i < w.length := by omega
    walk_at "w"
    refine u_ret (r_law_crew h hz hi) ?_
    rw [hSZ]
    by_cases hc : crR rs w i = true
    · rw [if_pos hc, if_pos ⟨hi, hc⟩]
    · rw [if_neg hc, if_neg (fun q => hc q.2)]
  · have hi : ¬ (i : Int) < (w.length : Nat) := of_decide_eq_false hd
    walk_at "w"
    rw [hSZ, if_neg (fun q => by have := q.1; omega)]
    rfl
  have pz : posR rs w (i, b) = true → SZ = szA rs w i ∧ 0 < SZ ∧ SZ < w.length := fun q => by
    have hi : i < w.length := by
      unfold posR at q
      exact of_decide_eq_true ((Bool.and_eq_true _ _ ▸ q).1)
    obtain ⟨q1, q2, _⟩ := (posR_iff (s := (i, b)) hi).mp q
    have q1 : crR rs w i = true := q1
    have q2 : szA rs w i < w.length := q2
    have q3 := ((crR_iff hi).mp q1).1
    rw [if_pos ⟨hi, q1⟩] at hSZ
    exact ⟨hSZ, by omega, by omega⟩
  rintro d _ rfl
  by_cases hA : SZ = 0
  · rw [mov_no (fun q => by have := (pz q).2.1; omega)]
    walk_at "w"
    rfl
  by_cases hB : SZ = w.length
  · rw [mov_no (fun q => by have := (pz q).2.2; omega)]
    walk_at "w"
    rfl
  have hic : i < w.length ∧ crR rs w i = true := by
    by_cases q : i < w.length ∧ crR rs w i = true
    · exact q
    · rw [if_neg q] at hSZ; exact absurd hSZ hA
  obtain ⟨hi, hc⟩ := hic
  rw [if_pos ⟨hi, hc⟩] at hSZ
  have hle := ((crR_iff hi).mp hc).2.1
  have hlt : SZ < w.length := by omega
  have hS5 : SZ ≤ 5 := by omega
  have hf := fst_lt (s := (i, b)) hi
  have hrl : (rot w (fstR w.length (i, b))).length = w.length := rot_len (by omega)
  have e2 := fst_mod (s := (i, b)) hi
  have hg : goalR w.length SZ (i, b) < w.length := by
    unfold goalR
    split <;> exact Nat.mod_lt _ h0
  have pq := posR_iff (rs := rs) (s := (i, b)) hi
  have af := aft_fill (rs := rs) (s := (i, b)) hi
  have pq : posR rs w (i, b) = true ↔ at0 w (goalR w.length SZ (i, b)) ≠ at0 w i := by
    rw [pq, hSZ]
    exact ⟨fun q => q.2.2, fun q => ⟨hc, by show szA rs w i < _; omega, q⟩⟩
  have af : posR rs w (i, b) = true → aft rs (rot w (fstR w.length (i, b))) (stpR (i, b)) = (fill (rot w (fstR w.length (i, b))) (offR (i, b)) SZ (at0 w i)).set (if b then 0 else SZ) (at0 w (goalR w.length SZ (i, b))) := by
    rw [hSZ]
    exact af
  clear hSZ pz
  walk_at "w"
  refine ⟨fun d _ => d = .int (goalR w.length SZ (i, b) : Nat), fun hd => ?_, fun hd => ?_, ?_⟩
  · cases b with
    | false => simp at hd
    | true =>
      walk_at "w"
      rw [show (i : Int) + (SZ : Int) = ((i + SZ : Nat) : Int) by push_cast; rfl]
      exact ⟨_, vMod_nat h0, rfl⟩
  · cases b with
    | true => simp at hd
    | false =>
      walk_at "w"
      refine ⟨_, vMod_int (by omega), ?_⟩
      exact congrArg Val.int e2
  rintro d _ rfl
  walk_at "w"
  refine ⟨_, vIx_txt (goalR w.length SZ (i, b)) rfl (at0_of hg) (by omega), ?_⟩
  walk_at "w"
  refine ⟨_, vIx_txt i rfl (at0_of hi) (by omega), ?_⟩
  refine ⟨_, eqG_txt _ _, ?_⟩
  rw [one_decide]
  by_cases hq : at0 w (goalR w.length SZ (i, b)) = at0 w i
  · rw [decide_eq_true hq, mov_no (fun q => pq.mp q hq)]
    walk_at "w"
    rfl
  rw [decide_eq_false hq]
  walk_at "w"
  refine ⟨_, by show (if (txtOf w).length ≤ 1000000 then some (w.map sgV) else none) = _; rw [txt_len, if_pos (by omega)], ?_⟩
  walk_at "w"
  have hp := pq.mpr hq
  have hA' := af hp
  have hoff : offR (i, b) + SZ ≤ w.length := by
    unfold offR
    split <;> omega
  generalize hF : fstR w.length (i, b) = F at *
  generalize hG : goalR w.length SZ (i, b) = G at *
  refine u_turnsM (fun j : Nat => Val.int (j : Nat)) (fun k η _ => ∃ (M : List Nat) (x9 : Option Val), η = [some (dicV rs), some (lnV w), some (stV (i, b)), some (Val.int (i : Nat)), some (Val.int (if b = true then 1 else -1)), some (Val.int (w.length : Nat)), some (Val.int (SZ : Nat)), some (Val.int (G : Nat)), some (.lst (M.map sgV)), x9] ∧ M.length = w.length ∧ rot M F = fill (rot w F) (offR (i, b)) k (at0 w i)) (List.range SZ) ⟨w, none, rfl, rfl, by rw [fill_0]⟩ ?_ ?_
  · rintro k x η a hx ⟨M, x9, rfl, hM, hR⟩
    obtain ⟨hk1, hk2⟩ := List.getElem?_eq_some_iff.mp hx
    rw [List.getElem_range] at hk2
    subst hk2
    rw [List.length_range] at hk1
    refine gx ?_
    walk_at "w"
    refine ⟨_, vIx_txt i rfl (at0_of hi) (by omega), ?_⟩
    walk_at "w"
    refine ⟨_, vMod_int (by omega), ?_⟩
    rw [idx_off e2]
    walk_at "w"
    refine ⟨_, (F + (offR (i, b) + k)) % w.length, rfl, ?_, ?_⟩
    · rw [List.length_map, hM]
      exact ixN_at (Nat.mod_lt _ h0)
    · refine ⟨M.set ((F + (offR (i, b) + k)) % w.length) (at0 w i), some (.int (k : Nat)), ?_, by rw [List.length_set, hM], ?_⟩
      · rw [← set_sg]
        rfl
      · have := rot_set (M := M) (F := F) (e := offR (i, b) + k) (v := at0 w i) (by omega) (by omega)
        rw [hM] at this
        rw [this, hR, fill_set (by omega)]
  · rintro η a ⟨M, x9, rfl, hM, hR⟩
    rw [List.length_range] at hR
    walk_at "w"
    refine ⟨_, vIx_txt G rfl (at0_of hg) (by omega), ?_⟩
    walk_at "w"
    refine ⟨fun d _ => d = .int ((F + (if b then 0 else SZ)) % w.length : Nat), fun hd => ?_, fun hd => ?_, ?_⟩
    · cases b with
      | false => simp at hd
      | true =>
        walk_at "w"
        have e3 : F = i := hF.symm
        show Val.int ((i : Nat) : Int) = Val.int (((F + 0) % w.length : Nat) : Int)
        rw [Nat.add_zero, Nat.mod_eq_of_lt hf, e3]
    · cases b with
      | true => simp at hd
      | false =>
        walk_at "w"
        refine ⟨_, vMod_int (by omega), ?_⟩
        rw [idx_end e2]
        rfl
    rintro d _ rfl
    have he : (if b then 0 else SZ) < w.length := by split <;> omega
    generalize (if b = true then 0 else SZ) = e at *
    refine ⟨_, (F + e) % w.length, rfl, ?_, ?_⟩
    · rw [List.length_map, hM]
      exact ixN_at (Nat.mod_lt _ h0)
    have hs : rot (M.set ((F + e) % w.length) (at0 w G)) F = aft rs (rot w F) (stpR (i, b)) := by
      have := rot_set (M := M) (F := F) (e := e) (v := at0 w G) (by omega) (by omega)
      rw [hM] at this
      rw [this, hR, hA']
    have hm : movR rs w (i, b) = M.set ((F + e) % w.length) (at0 w G) := by
      unfold movR
      rw [if_pos hp]
      unfold aftR
      rw [hF, ← hs]
      have := rot_back (M := M.set ((F + e) % w.length) (at0 w G)) (F := F) (by rw [List.length_set]; omega)
      rw [List.length_set, hM] at this
      exact this
    have hml : (movR rs w (i, b)).length = w.length := by rw [hm, List.length_set, hM]
    have hmap : (M.map sgV).set ((F + e) % w.length) (Val.str (txtOf [at0 w G])) = (movR rs w (i, b)).map sgV := by
      rw [hm, ← set_sg]
      rfl
    walk_at "w"
    rw [hmap]
    exact ⟨_, vJoin_sg (by omega), rfl⟩
end My
end
section
set_option Elab.async false
set_option linter.all false
set_option maxRecDepth 100000
set_option maxHeartbeats 4000000
namespace My
open PySem PySem.Spec PyProof.Rows L2 XK EV
local macro_rules | `(tactic| walk_at "ev") => `(tactic| repeat (with_reducible refine WP.imp ?_))
local macro_rules | `(tactic| walk_at "ex") => `(tactic| (first | refine gx ?_ | refine ⟨_, rfl, ?_⟩))
local macro_rules | `(tactic| walk_at "go") => `(tactic| repeat (first | with_reducible refine WP.imp ?_ | refine gx ?_ | refine ⟨_, rfl, ?_⟩))
local macro_rules | `(tactic| walk_at "s") => `(tactic| first
  | with_reducible refine u_ifP ?_
  | with_reducible refine WP.imp ?_
  | refine ⟨_, fun _ => ?_, fun h => (Bool.false_ne_true h.symm).elim, fun _ _ t => t⟩
  | refine ⟨_, fun h => (Bool.false_ne_true h).elim, fun _ => ?_, fun _ _ t => t⟩
  | refine gx ?_
  | refine ⟨_, eqG_int _ _, ?_⟩
  | refine ⟨_, neG_int _ _, ?_⟩
  | refine ⟨_, eqG_txt _ _, ?_⟩
  | refine ⟨_, neG_txt _ _, ?_⟩
  | refine ⟨_, eqG_txt _ [], ?_⟩
  | refine ⟨_, neG_txt _ [], ?_⟩
  | refine ⟨_, vLen_txt (by omega), ?_⟩
  | refine ⟨_, vIx_tup 0 rfl rfl, ?_⟩
  | refine ⟨_, vIx_tup 1 rfl rfl, ?_⟩
  | refine ⟨_, vIx_tup 2 rfl rfl, ?_⟩
  | refine ⟨_, rfl, ?_⟩
  | refine And.intro (fun _ => ?_) (fun h => (Bool.false_ne_true h.symm).elim)
  | refine And.intro (fun h => (Bool.false_ne_true h).elim) (fun _ => ?_)
  | refine And.intro (fun _ => ?_) (fun h => (Bool.false_ne_true h).elim)
  | refine And.intro (fun h => (Bool.false_ne_true h.symm).elim) (fun _ => ?_)
  | refine And.intro (Nat.le_of_ble_eq_true rfl : _ ≤ 1000) ?_
  | refine And.intro (Nat.le_of_ble_eq_true rfl : _ ≤ 1000000) ?_
  | refine And.intro (by omega) ?_
  | refine And.intro (fun _ => ?_) (fun h => by exfalso; simp only [Bool.not_eq_true', Bool.not_eq_false', decide_eq_true_eq, decide_eq_false_iff_not] at h; omega)
  | refine And.intro (fun h => by exfalso; simp only [Bool.not_eq_true', Bool.not_eq_false', decide_eq_true_eq, decide_eq_false_iff_not] at h; omega) (fun _ => ?_))
local macro_rules | `(tactic| walk_at "w") => `(tactic| repeat (walk_at "s"))
/-! steps told right -/
theorem ov_places {n : Nat} (h : n ≤ 12) (p : Nat → Bool) : OkV (.tup (((List.range n).filter p).map fun i => .int (i : Nat))) 1 108 := by
  have hl : (((List.range n).filter p).map fun i => Val.int (i : Nat)).length ≤ 12 := by
    rw [List.length_map]
    exact Nat.le_trans (List.length_filter_le ..) (by rw [List.length_range]; exact h)
  refine (ov_tup (k := 0) (W := 8) fun d hd => ?_).mono (Nat.le_refl _) (by omega)
  obtain ⟨i, hi, rfl⟩ := List.mem_map.mp hd
  have := List.mem_range.mp (List.mem_filter.mp hi).1
  exact ov_int (by omega) (by omega)
theorem ov_st {s : Stp} (h : s.1 < 12) : OkV (stV s) 1 18 := by
  refine ov_tup (k := 0) (W := 8) fun d hd => ?_
  rcases List.mem_cons.mp hd with rfl | hd
  · exact ov_int (by omega) (by omega)
  · obtain rfl := List.mem_singleton.mp hd
    exact ov_int (by split <;> decide) (by split <;> decide)
theorem ov_steps {ss : List Stp} (h : ∀ s ∈ ss, s.1 < 12) (hl : ss.length ≤ 24) : OkV (.tup (ss.map stV)) 2 456 := by
  have hl' : (ss.map stV).length ≤ 24 := by rw [List.length_map]; exact hl
  refine (ov_tup (k := 1) (W := 18) fun d hd => ?_).mono (Nat.le_refl _) (by omega)
  obtain ⟨s, hs, rfl⟩ := List.mem_map.mp hd
  exact ov_st (h s hs)
theorem mem_cand {pl : List Nat} {s : Stp} (h : s ∈ pl.flatMap cand) : s.1 ∈ pl := by
  obtain ⟨i, hi, hs⟩ := List.mem_flatMap.mp h
  rcases List.mem_cons.mp hs with rfl | hs
  · exact hi
  · obtain rfl := List.mem_singleton.mp hs
    exact hi
theorem flat_len (pl : List Nat) : (pl.flatMap cand).length = 2 * pl.length := by
  have := cand_le pl
  rwa [List.length_map] at this
theorem ov_every {pl : List Nat} (p : Stp → Bool) (h : ∀ i ∈ pl, i < 12) (hl : pl.length ≤ 12) : OkV (.tup (((pl.flatMap cand).filter p).map stV)) 2 456 := by
  refine ov_steps (fun s hs => h _ (mem_cand (List.mem_filter.mp hs).1)) (Nat.le_trans (List.length_filter_le ..) ?_)
  rw [flat_len]
  omega
theorem some_eq (q : Stp → Bool) (p : Nat → Bool) : ∀ pl : List Nat, ((pl.filter p).flatMap cand).filter q = ((pl.flatMap cand).filter q).filter fun s => p s.1
  | [] => rfl
  | i :: pl => by
    rw [List.flatMap_cons, List.filter_append, List.filter_append, ← some_eq q p pl, List.filter_cons]
    by_cases h : p i = true
    · rw [if_pos h, List.flatMap_cons, List.filter_append]
      congr 1
      symm
      refine List.filter_eq_self.mpr fun s hs => ?_
      have := (List.mem_filter.mp hs).1
      have e : s.1 = i := by
        rcases List.mem_cons.mp this with rfl | h'
        · walk_at "ev"
          rfl
        · obtain rfl := List.mem_singleton.mp h'
          walk_at "ev"
          rfl
      rw [e]
      exact h
    · rw [if_neg h]
      have : ((cand i).filter q).filter (fun s => p s.1) = [] := List.filter_eq_nil_iff.mpr fun s hs => by
        have := (List.mem_filter.mp hs).1
        have e : s.1 = i := by
          rcases List.mem_cons.mp this with rfl | h'
          · walk_at "ev"
            rfl
          · obtain rfl := List.mem_singleton.mp h'
            walk_at "ev"
            rfl
        rw [e]
        exact h
      rw [this, List.nil_append]
theorem vRepr_same {d : Val} {k W : Nat} (h : OkV d k W) (hk : k ≤ 40) (hW : W ≤ 1048576) : ∃ z : Str, vRepr [d] = some (.str z) ∧ eqG (.str z) (.str z) = some (.bl true) ∧ neG (.str z) (.str z) = some (.bl false) := ⟨_, vRepr_ov h hk hW, eqG_self rfl (by show (0 : Nat) ≤ 60; decide), neG_str _⟩
theorem every_eq {rs : Ros} {w : List Nat} (hl : w.length ≤ 12) : ((List.range 12).flatMap cand).filter (posR rs w) = ((List.range w.length).flatMap cand).filter (posR rs w) := by
  have e : List.range 12 = List.range w.length ++ (List.range (12 - w.length)).map (fun x => w.length + x) := by
    rw [← List.range_add]
    congr 1
    omega
  have z : (((List.range (12 - w.length)).map (fun x => w.length + x)).flatMap cand).filter (posR rs w) = [] := by
    refine List.filter_eq_nil_iff.mpr fun s hs q => ?_
    have h1 := mem_cand hs
    obtain ⟨x, _, hx⟩ := List.mem_map.mp h1
    unfold posR at q
    have := of_decide_eq_true ((Bool.and_eq_true _ _ ▸ q).1)
    omega
  rw [e, List.flatMap_append, List.filter_append, z, List.append_nil]
end My
end
section
set_option Elab.async false
set_option linter.all false
set_option maxRecDepth 100000
set_option maxHeartbeats 4000000
namespace My
open PySem PySem.Spec PyProof.Rows L2 XK EV
local macro_rules | `(tactic| walk_at "ev") => `(tactic| repeat (with_reducible refine WP.imp ?_))
local macro_rules | `(tactic| walk_at "ex") => `(tactic| (first | refine gx ?_ | refine ⟨_, rfl, ?_⟩))
local macro_rules | `(tactic| walk_at "go") => `(tactic| repeat (first | with_reducible refine WP.imp ?_ | refine gx ?_ | refine ⟨_, rfl, ?_⟩))
local macro_rules | `(tactic| walk_at "s") => `(tactic| first
  | with_reducible refine u_ifP ?_
  | with_reducible refine WP.imp ?_
  | refine ⟨_, fun _ => ?_, fun h => (Bool.false_ne_true h.symm).elim, fun _ _ t => t⟩
  | refine ⟨_, fun h => (Bool.false_ne_true h).elim, fun _ => ?_, fun _ _ t => t⟩
  | refine gx ?_
  | refine ⟨_, eqG_int _ _, ?_⟩
  | refine ⟨_, neG_int _ _, ?_⟩
  | refine ⟨_, eqG_txt _ _, ?_⟩
  | refine ⟨_, neG_txt _ _, ?_⟩
  | refine ⟨_, eqG_txt _ [], ?_⟩
  | refine ⟨_, neG_txt _ [], ?_⟩
  | refine ⟨_, vLen_txt (by omega), ?_⟩
  | refine ⟨_, vIx_tup 0 rfl rfl, ?_⟩
  | refine ⟨_, vIx_tup 1 rfl rfl, ?_⟩
  | refine ⟨_, vIx_tup 2 rfl rfl, ?_⟩
  | refine ⟨_, rfl, ?_⟩
  | refine And.intro (fun _ => ?_) (fun h => (Bool.false_ne_true h.symm).elim)
  | refine And.intro (fun h => (Bool.false_ne_true h).elim) (fun _ => ?_)
  | refine And.intro (fun _ => ?_) (fun h => (Bool.false_ne_true h).elim)
  | refine And.intro (fun h => (Bool.false_ne_true h.symm).elim) (fun _ => ?_)
  | refine And.intro (Nat.le_of_ble_eq_true rfl : _ ≤ 1000) ?_
  | refine And.intro (Nat.le_of_ble_eq_true rfl : _ ≤ 1000000) ?_
  | refine And.intro (by omega) ?_
  | refine And.intro (fun _ => ?_) (fun h => by exfalso; simp only [Bool.not_eq_true', Bool.not_eq_false', decide_eq_true_eq, decide_eq_false_iff_not] at h; omega)
  | refine And.intro (fun h => by exfalso; simp only [Bool.not_eq_true', Bool.not_eq_false', decide_eq_true_eq, decide_eq_false_iff_not] at h; omega) (fun _ => ?_))
local macro_rules | `(tactic| walk_at "w") => `(tactic| repeat (walk_at "s"))
--raw
theorem r_raised (e : Err) : s__law_raised (.err e) = .ret (.exc e.C e.f e.x) := by
  refine gl__law_raised fun fA => ?_
  unfold m__law_raised
  walk_at "w"
  refine u_err rfl ?_
  walk_at "w"
  rfl
theorem mov_len {rs : Ros} {w : List Nat} {s : Stp} (hi : s.1 < w.length) (hp : posR rs w s = true) : (movR rs w s).length = w.length := by
  have hf := fst_lt hi
  have hl : (rot w (fstR w.length s)).length = w.length := rot_len (by omega)
  have hpb : posB rs (rot w (fstR w.length s)) (stpR s) = true := by
    unfold posR at hp
    exact (Bool.and_eq_true _ _ ▸ hp).2
  have ha := aft_len (pos_of hpb)
  unfold movR
  rw [if_pos hp]
  unfold aftR
  have hm : (w.length - fstR w.length s) % w.length < w.length := Nat.mod_lt _ (by omega)
  rw [rot_len (by omega), ha, hl]
theorem mov_mem {rs : Ros} {w : List Nat} {s : Stp} (hz : okL rs w) (hi : s.1 < w.length) (hp : posR rs w s = true) {c : Nat} (hc : c ∈ movR rs w s) : c ∈ badges rs := by
  have hf := fst_lt hi
  have hpb : posB rs (rot w (fstR w.length s)) (stpR s) = true := by
    unfold posR at hp
    exact (Bool.and_eq_true _ _ ▸ hp).2
  have hl : (rot w (fstR w.length s)).length = w.length := rot_len (by omega)
  unfold movR at hc
  rw [if_pos hp] at hc
  have hm : (w.length - fstR w.length s) % w.length < w.length := Nat.mod_lt _ (by omega)
  exact (rot_ok (aft_ok (rot_ok hz (by omega)) (pos_of hpb)) (by rw [aft_len (pos_of hpb), hl]; omega)).mem c hc
theorem r_law_step_right {rs : Ros} {w : List Nat} {s : Stp} (h : okR rs) (hz : okL rs w) (hw : w ≠ []) (hs : s.1 < 12) : s__law_step_right [rosV rs, lnV w, stV s, lnV (movR rs w s)] = .ret (.bl true) := by
  have hl := hz.len
  have h0 : 0 < w.length := List.length_pos_iff.mpr hw
  refine go__law_step_right ?_
  unfold m__law_step_right
  walk_at "ev"
  by_cases hp : posR rs w s = true
  · have hi : s.1 < w.length := by
      unfold posR at hp
      exact of_decide_eq_true ((Bool.and_eq_true _ _ ▸ hp).1)
    have hne : movR rs w s ≠ [] := fun q => by
      have := mov_len hi hp
      rw [q] at this
      simp at this
      omega
    refine ⟨_, neG_txt _ [], true, ?_, fun _ => ?_, fun h => nomatch h⟩
    · rw [decide_eq_false hne]
      rfl
    have ov : OkV (lnV (movR rs w s)) 0 13 := ov_line (fun c hc => low_lt h (mov_mem hz hi hp hc)) (by rw [mov_len hi hp]; omega)
    obtain ⟨z, z1, z2, _⟩ := vRepr_same ov (by decide) (by decide)
    walk_at "w"
    refine u_ret (r_walk_one h hz hw hs hp) ?_
    walk_at "w"
    rw [show lnV (aftR rs w s) = lnV (movR rs w s) by unfold movR; rw [if_pos hp]]
    refine ⟨_, z1, ?_⟩
    walk_at "w"
    refine ⟨_, z1, ?_⟩
    exact ⟨_, z2, rfl⟩
  · have he : movR rs w s = [] := if_neg hp
    rw [he]
    refine ⟨_, neG_txt _ [], false, rfl, (fun h => nomatch h), fun _ => ?_⟩
    walk_at "w"
    have hb : runT (eCall s_ring_after_walk (aCons (vr 0) (aCons (vr 1) (aCons (eTup (aCons (vr 2) aNil)) aNil))) [some (rosV rs), some (lnV w), some (stV s), some (lnV []), none]) = .err ⟨"NotPossible", "index", .int 0⟩ := by
      refine runT_err ?_
      walk_at "w"
      exact u_err (r_walk_bad h hz hw hs (by simpa using hp)) rfl
    refine u_lam hb (r_raised _) ?_
    walk_at "w"
    refine ⟨"NotPossible", .int 0, rfl, by simp, ?_⟩
    walk_at "w"
    rfl
end My
end
section
set_option Elab.async false
set_option linter.all false
set_option maxRecDepth 100000
set_option maxHeartbeats 4000000
namespace My
open PySem PySem.Spec PyProof.Rows L2 XK EV
local macro_rules | `(tactic| walk_at "ev") => `(tactic| repeat (with_reducible refine WP.imp ?_))
local macro_rules | `(tactic| walk_at "ex") => `(tactic| (first | refine gx ?_ | refine ⟨_, rfl, ?_⟩))
local macro_rules | `(tactic| walk_at "go") => `(tactic| repeat (first | with_reducible refine WP.imp ?_ | refine gx ?_ | refine ⟨_, rfl, ?_⟩))
local macro_rules | `(tactic| walk_at "s") => `(tactic| first
  | with_reducible refine u_ifP ?_
  | with_reducible refine WP.imp ?_
  | refine ⟨_, fun _ => ?_, fun h => (Bool.false_ne_true h.symm).elim, fun _ _ t => t⟩
  | refine ⟨_, fun h => (Bool.false_ne_true h).elim, fun _ => ?_, fun _ _ t => t⟩
  | refine gx ?_
  | refine ⟨_, eqG_int _ _, ?_⟩
  | refine ⟨_, neG_int _ _, ?_⟩
  | refine ⟨_, eqG_txt _ _, ?_⟩
  | refine ⟨_, neG_txt _ _, ?_⟩
  | refine ⟨_, eqG_txt _ [], ?_⟩
  | refine ⟨_, neG_txt _ [], ?_⟩
  | refine ⟨_, vLen_txt (by omega), ?_⟩
  | refine ⟨_, vIx_tup 0 rfl rfl, ?_⟩
  | refine ⟨_, vIx_tup 1 rfl rfl, ?_⟩
  | refine ⟨_, vIx_tup 2 rfl rfl, ?_⟩
  | refine ⟨_, rfl, ?_⟩
  | refine And.intro (fun _ => ?_) (fun h => (Bool.false_ne_true h.symm).elim)
  | refine And.intro (fun h => (Bool.false_ne_true h).elim) (fun _ => ?_)
  | refine And.intro (fun _ => ?_) (fun h => (Bool.false_ne_true h).elim)
  | refine And.intro (fun h => (Bool.false_ne_true h.symm).elim) (fun _ => ?_)
  | refine And.intro (Nat.le_of_ble_eq_true rfl : _ ≤ 1000) ?_
  | refine And.intro (Nat.le_of_ble_eq_true rfl : _ ≤ 1000000) ?_
  | refine And.intro (by omega) ?_
  | refine And.intro (fun _ => ?_) (fun h => by exfalso; simp only [Bool.not_eq_true', Bool.not_eq_false', decide_eq_true_eq, decide_eq_false_iff_not] at h; omega)
  | refine And.intro (fun h => by exfalso; simp only [Bool.not_eq_true', Bool.not_eq_false', decide_eq_true_eq, decide_eq_false_iff_not] at h; omega) (fun _ => ?_))
local macro_rules | `(tactic| walk_at "w") => `(tactic| repeat (walk_at "s"))
--raw
theorem mov_ne {rs : Ros} {w : List Nat} {s : Stp} : (!decide (movR rs w s = [])) = posR rs w s := by
  by_cases hp : posR rs w s = true
  · have hi : s.1 < w.length := by
      unfold posR at hp
      exact of_decide_eq_true ((Bool.and_eq_true _ _ ▸ hp).1)
    rw [hp, decide_eq_false]
    · rfl
    · intro q
      have := mov_len hi hp
      rw [q] at this
      simp at this
      omega
  · rw [decide_eq_true (show movR rs w s = [] from if_neg hp)]
    revert hp
    cases posR rs w s <;> simp
theorem every_lst : (List.range 24).map (fun k : Nat => Val.tup [.int ((k : Int) / 2), .int (2 * ((k : Int) % 2) - 1)]) = ((List.range 12).flatMap cand).map stV := by rfl
theorem r_law_right {rs : Ros} {w : List Nat} (h : okR rs) (hz : okL rs w) (hw : w ≠ []) : s__law_right [rosV rs, lnV w] = .ret (.bl true) := by
  have hl := hz.len
  have h0 : 0 < w.length := List.length_pos_iff.mpr hw
  refine go__law_right ?_
  unfold m__law_right
  walk_at "w"
  refine ⟨_, vDict_ros h, ?_⟩
  walk_at "w"
  refine ⟨by rw [List.length_map, List.length_range]; show w.length ≤ _; omega, ?_⟩
  refine u_lcM (fun i : Nat => Val.int (i : Nat)) (crR rs w) (fun i => .int (i : Nat)) (l := List.range w.length) (fun i hi => gx ⟨?_, fun _ => ?_⟩) ?_
  · have hi := List.mem_range.mp hi
    walk_at "ev"
    refine u_ret (r_law_crew h hz hi) ?_
    walk_at "ev"
    refine ⟨_, rfl, _, rfl, ?_⟩
    by_cases hc : crR rs w i = true
    · rw [if_pos hc, hc]
      have := ((crR_iff hi).mp hc).1
      exact decide_eq_true (by omega)
    · rw [if_neg hc]
      revert hc
      cases crR rs w i <;> simp
  · walk_at "ev"
    rfl
  walk_at "w"
  refine u_lcA (fun i : Nat => Val.int (i : Nat)) (fun k : Nat => Val.tup [.int ((k : Int) / 2), .int (2 * ((k : Int) % 2) - 1)]) (l := List.range 24) (fun i hi => gx ?_) ?_
  · walk_at "w"
    rfl
  rw [every_lst]
  walk_at "w"
  refine u_lcM stV (posR rs w) stV (fun s hs => gx ⟨?_, fun _ => ?_⟩) ?_
  · walk_at "ev"
    refine u_ret (r_law_moved h hz hw) ?_
    walk_at "ev"
    refine ⟨_, neG_txt _ [], _, rfl, mov_ne⟩
  · walk_at "ev"
    rfl
  rw [every_eq hl]
  walk_at "w"
  have r1 := r_ring_crews_at h hz hw
  have r2 := r_ring_steps_of h hz hw
  have ovC : OkV (.tup ((crsR rs w).map fun i => .int (i : Nat))) 2 456 := (ov_places hl (crR rs w)).mono (by decide) (by decide)
  have ovD : OkV (.tup ((((List.range w.length).flatMap cand).filter (posR rs w)).map stV)) 2 456 := ov_every (posR rs w) (fun i hi => by have := List.mem_range.mp hi; omega) (by rw [List.length_range]; exact hl)
  have ov4 : OkV (.lst [.tup ((crsR rs w).map fun i => .int (i : Nat)), .tup ((crsR rs w).map fun i => .int (i : Nat)), .tup ((((List.range w.length).flatMap cand).filter (posR rs w)).map stV), .tup ((((List.range w.length).flatMap cand).filter (posR rs w)).map stV)]) 3 (4 * 457) := ov_lst fun d hd => by
    simp only [List.mem_cons, List.not_mem_nil, or_false] at hd
    rcases hd with rfl | rfl | rfl | rfl
    · exact ovC
    · exact ovC
    · exact ovD
    · exact ovD
  obtain ⟨z, z1, _, z3⟩ := vRepr_same ov4 (by decide) (by decide)
  refine u_ret r1 ?_
  walk_at "w"
  refine u_ret r1 ?_
  walk_at "w"
  refine u_ret r2 ?_
  walk_at "w"
  refine u_ret r2 ?_
  walk_at "w"
  refine ⟨_, z1, ?_⟩
  walk_at "w"
  refine ⟨_, z1, ?_⟩
  refine ⟨_, z3, ?_⟩
  walk_at "w"
  generalize hT9 : (some (Val.lst ([Val.tup (List.map (fun i => Val.int ((i : Nat) : Int)) (crsR rs w)), Val.tup (List.map (fun i => Val.int ((i : Nat) : Int)) (crsR rs w))] ++ [Val.tup (List.map stV (List.filter (posR rs w) (List.flatMap cand (List.range w.length)))), Val.tup (List.map stV (List.filter (posR rs w) (List.flatMap cand (List.range w.length))))])) : Option Val) = T9
  generalize hC : (some (Val.tup (List.map (fun i => Val.int ((i : Nat) : Int)) (List.filter (crR rs w) (List.range w.length)))) : Option Val) = T3
  clear hT9 hC ov4 z1 z3 ovC
  refine u_turnsM entV (fun i η _ => ∃ x10 x11 x12, η = [some (rosV rs), some (lnV w), some (.dic (dicE rs)), T3, none, some (.lst (((List.range 12).flatMap cand).map stV)), none, some (.tup ((((List.range w.length).flatMap cand).filter (posR rs w)).map stV)), none, T9, x10, x11, x12]) rs ⟨none, none, none, rfl⟩ ?_ ?_
  · rintro i r η a hr ⟨x10, x11, x12, rfl⟩
    have hm : r ∈ rs := List.mem_of_getElem? hr
    have hk : r.1 ∈ badges rs := List.mem_map.mpr ⟨r, hm, rfl⟩
    refine gx ?_
    walk_at "w"
    have hlen : ((((List.range w.length).flatMap cand).filter (posR rs w))).length ≤ 24 := Nat.le_trans (List.length_filter_le ..) (by rw [flat_len, List.length_range]; omega)
    refine ⟨by rw [List.length_map]; omega, ?_⟩
    refine u_lcM stV (fun s => decide (at0 w s.1 = r.1)) stV (fun s hs => gx ⟨?_, fun _ => ?_⟩) ?_
    · have hi : s.1 < w.length := List.mem_range.mp (mem_cand (List.mem_filter.mp hs).1)
      walk_at "w"
      refine ⟨_, vIx_txt s.1 rfl (at0_of hi) (by omega), ?_⟩
      walk_at "w"
      exact one_decide _ _
    · walk_at "w"
      rfl
    have rk := r_ring_steps_of_k h hz hw hk
    rw [some_eq (posR rs w) (fun i => decide (at0 w i = r.1))] at rk
    have ovK : OkV (.tup (((((List.range w.length).flatMap cand).filter (posR rs w)).filter fun s => decide (at0 w s.1 = r.1)).map stV)) 2 456 := ov_steps (fun s hs => by
      have := List.mem_range.mp (mem_cand (List.mem_filter.mp (List.mem_filter.mp hs).1).1)
      omega) (Nat.le_trans (List.length_filter_le ..) hlen)
    obtain ⟨z, z1, _, z3⟩ := vRepr_same ovK (by decide) (by decide)
    walk_at "w"
    refine u_ret rk ?_
    walk_at "w"
    refine ⟨_, z1, ?_⟩
    walk_at "w"
    refine ⟨_, z1, ?_⟩
    refine ⟨_, z3, ?_⟩
    walk_at "w"
    exact ⟨_, _, _, rfl⟩
  · rintro η a ⟨x10, x11, x12, rfl⟩
    walk_at "w"
    refine u_lcM stV (fun _ => false) stV (fun s hs => gx ⟨?_, fun h => nomatch h⟩) ?_
    · have hs : s.1 < 12 := List.mem_range.mp (mem_cand hs)
      walk_at "w"
      refine u_ret (r_law_moved h hz hw) ?_
      walk_at "w"
      refine u_ret (r_law_step_right h hz hw hs) ?_
      walk_at "w"
      rfl
    · have e : List.filter (fun _ : Stp => false) ((List.range 12).flatMap cand) = [] := List.filter_eq_nil_iff.mpr (by simp)
      rw [e]
      walk_at "w"
      rfl
end My
end
section
set_option Elab.async false
set_option linter.all false
set_option maxRecDepth 100000
set_option maxHeartbeats 4000000
namespace My
open PySem PySem.Spec PyProof.Rows L2 XK EV
local macro_rules | `(tactic| walk_at "ev") => `(tactic| repeat (with_reducible refine WP.imp ?_))
local macro_rules | `(tactic| walk_at "ex") => `(tactic| (first | refine gx ?_ | refine ⟨_, rfl, ?_⟩))
local macro_rules | `(tactic| walk_at "go") => `(tactic| repeat (first | with_reducible refine WP.imp ?_ | refine gx ?_ | refine ⟨_, rfl, ?_⟩))
local macro_rules | `(tactic| walk_at "s") => `(tactic| first
  | with_reducible refine u_ifP ?_
  | with_reducible refine WP.imp ?_
  | refine ⟨_, fun _ => ?_, fun h => (Bool.false_ne_true h.symm).elim, fun _ _ t => t⟩
  | refine ⟨_, fun h => (Bool.false_ne_true h).elim, fun _ => ?_, fun _ _ t => t⟩
  | refine gx ?_
  | refine ⟨_, eqG_int _ _, ?_⟩
  | refine ⟨_, neG_int _ _, ?_⟩
  | refine ⟨_, eqG_txt _ _, ?_⟩
  | refine ⟨_, neG_txt _ _, ?_⟩
  | refine ⟨_, eqG_txt _ [], ?_⟩
  | refine ⟨_, neG_txt _ [], ?_⟩
  | refine ⟨_, vLen_txt (by omega), ?_⟩
  | refine ⟨_, vIx_tup 0 rfl rfl, ?_⟩
  | refine ⟨_, vIx_tup 1 rfl rfl, ?_⟩
  | refine ⟨_, vIx_tup 2 rfl rfl, ?_⟩
  | refine ⟨_, rfl, ?_⟩
  | refine And.intro (fun _ => ?_) (fun h => (Bool.false_ne_true h.symm).elim)
  | refine And.intro (fun h => (Bool.false_ne_true h).elim) (fun _ => ?_)
  | refine And.intro (fun _ => ?_) (fun h => (Bool.false_ne_true h).elim)
  | refine And.intro (fun h => (Bool.false_ne_true h.symm).elim) (fun _ => ?_)
  | refine And.intro (Nat.le_of_ble_eq_true rfl : _ ≤ 1000) ?_
  | refine And.intro (Nat.le_of_ble_eq_true rfl : _ ≤ 1000000) ?_
  | refine And.intro (by omega) ?_
  | refine And.intro (fun _ => ?_) (fun h => by exfalso; simp only [Bool.not_eq_true', Bool.not_eq_false', decide_eq_true_eq, decide_eq_false_iff_not] at h; omega)
  | refine And.intro (fun h => by exfalso; simp only [Bool.not_eq_true', Bool.not_eq_false', decide_eq_true_eq, decide_eq_false_iff_not] at h; omega) (fun _ => ?_))
local macro_rules | `(tactic| walk_at "w") => `(tactic| repeat (walk_at "s"))
--raw
def oddL (rs : Ros) : List Val := [.str "", .str "A", .str "zz", .int 0, .bl true, .tup [.str "a"], .lst [.str "a"], .str (txtOf (badges rs ++ [121]))]
theorem odd_all {rs : Ros} (h : okR rs) : ∀ d ∈ oddL rs, d ≠ .non ∧ odd rs d ∧ OkV d 1 18 := by
  have tx : ∀ (w : List Nat), (∀ k, lowC k → [k] ≠ w) → odd rs (.str (txtOf w)) := fun w hw q hq => by
    rw [eqG_txt, decide_eq_false (hw q.1 (h.ok q hq).1)]
  have st : ∀ z : Str, z.length ≤ 18 → (∀ c ∈ z.cps.toList, c < 1114112) → OkV (.str z) 1 18 := fun z h1 h2 => (ov_str h2).mono (Nat.zero_le _) h1
  have s1 : OkV (.str "a") 0 1 := ov_str (by decide +kernel)
  intro d hd
  unfold oddL at hd
  simp only [List.mem_cons, List.not_mem_nil, or_false] at hd
  rcases hd with rfl | rfl | rfl | rfl | rfl | rfl | rfl | rfl
  · exact ⟨(fun e => nomatch e), tx [] (fun k _ e => nomatch e), st _ (by decide) (by decide +kernel)⟩
  · exact ⟨(fun e => nomatch e), tx [65] (fun k hk e => by have := hk.1; cases e; omega), st _ (by decide) (by decide +kernel)⟩
  · exact ⟨(fun e => nomatch e), tx [122, 122] (fun k _ e => nomatch e), st _ (by decide) (by decide +kernel)⟩
  · exact ⟨(fun e => nomatch e), fun q hq => rfl, (ov_int (by decide) (by decide)).mono (Nat.zero_le _) (by decide)⟩
  · exact ⟨(fun e => nomatch e), fun q hq => rfl, (ov_bool _).mono (Nat.zero_le _) (by decide)⟩
  · exact ⟨(fun e => nomatch e), fun q hq => rfl, (ov_tup (k := 0) (W := 1) fun d hd => by obtain rfl := List.mem_singleton.mp hd; exact s1).mono (Nat.le_refl _) (by decide)⟩
  · exact ⟨(fun e => nomatch e), fun q hq => rfl, (ov_lst (k := 0) (W := 1) fun d hd => by obtain rfl := List.mem_singleton.mp hd; exact s1).mono (Nat.le_refl _) (by decide)⟩
  · have hb : 1 ≤ (badges rs).length := by rw [List.length_map]; exact h.l1
    have hb4 : (badges rs).length ≤ 4 := by rw [List.length_map]; exact h.l4
    refine ⟨(fun e => nomatch e), tx _ (fun k _ e => ?_), (ov_txt fun c hc => ?_).mono (Nat.zero_le _) (by rw [List.length_append]; show _ + 1 ≤ 18; omega)⟩
    · have := congrArg List.length e
      rw [List.length_append] at this
      have this : 1 = (badges rs).length + 1 := this
      omega
    · rcases List.mem_append.mp hc with q | q
      · have := low_lt h q
        omega
      · obtain rfl := List.mem_singleton.mp q
        decide
theorem a_badge_right {n : Nat} {rs : Ros} {w : List Nat} {Q : Val → Nat → Prop} (h : okR rs) (hz : okL rs w) (hw : w ≠ []) (hn : 1 ≤ n) (q : Q (.bl true) (n - 1)) : Al (s__law_badge_right [rosV rs, lnV w]) n Q (fun _ _ => False) := by
  refine gd__law_badge_right ?_
  unfold m__law_badge_right
  walk_at "w"
  refine ⟨by rw [List.length_map]; have := h.l4; omega, ?_⟩
  refine u_lcA entV (fun r => .str (txtOf [r.1])) (fun r hr => gx ?_) ?_
  · walk_at "w"
    rfl
  walk_at "w"
  have hj : vJoin "" (.lst (rs.map fun r => .str (txtOf [r.1]))) = some (lnV (badges rs)) := by
    have := vJoin_signs (ks := badges rs) (by rw [List.length_map]; have := h.l4; omega)
    rw [List.map_map] at this
    exact this
  refine ⟨_, hj, ?_⟩
  walk_at "w"
  have hb4 : (badges rs).length ≤ 4 := by rw [List.length_map]; exact h.l4
  refine ⟨_, vAdd_txt (b := [121]) (by show _ + 1 ≤ _; omega), ?_⟩
  walk_at "w"
  refine u_next (a := n - 1) (by omega) (by decide) (by decide) fun j ja jb => ?_
  obtain ⟨i, rfl⟩ := Int.eq_ofNat_of_zero_le ja
  have hi : i < (oddL rs).length := by show i < 8; omega
  have hix : vIx (.lst (oddL rs)) (.int (i : Nat)) = some (oddL rs)[i] := vIx_lst i rfl (List.getElem?_eq_getElem hi)
  have hm : (oddL rs)[i] ∈ oddL rs := List.getElem_mem hi
  generalize (oddL rs)[i] = d at hix hm
  obtain ⟨d1, d2, d3⟩ := odd_all h d hm
  obtain ⟨z, z1, z2, _⟩ := vRepr_same d3 (by decide) (by decide)
  refine ⟨d, hix, ?_⟩
  walk_at "w"
  have hbd : runT (eCallK 2 1 [0] s_ring_steps_of (aCons (vr 1) (aCons (vr 2) aNil)) (aCons (vr 6) aNil) [none, some (rosV rs), some (lnV w), some (lnV (badges rs)), none, none, some d, none]) = .err ⟨"InvalidBadge", "badge", d⟩ := by
    refine runT_err ?_
    walk_at "w"
    exact u_err (r_ring_steps_odd h hz hw d1 d2) rfl
  refine u_lam hbd (r_raised _) ?_
  walk_at "w"
  refine ⟨"InvalidBadge", d, rfl, by simp, ?_⟩
  walk_at "w"
  refine ⟨_, z1, ?_⟩
  walk_at "w"
  refine ⟨_, z1, ?_⟩
  exact ⟨_, z2, q⟩
end My
end
section
set_option Elab.async false
set_option linter.all false
set_option maxRecDepth 100000
set_option maxHeartbeats 4000000
namespace My
open PySem PySem.Spec PyProof.Rows L2 XK EV
local macro_rules | `(tactic| walk_at "ev") => `(tactic| repeat (with_reducible refine WP.imp ?_))
local macro_rules | `(tactic| walk_at "ex") => `(tactic| (first | refine gx ?_ | refine ⟨_, rfl, ?_⟩))
local macro_rules | `(tactic| walk_at "go") => `(tactic| repeat (first | with_reducible refine WP.imp ?_ | refine gx ?_ | refine ⟨_, rfl, ?_⟩))
local macro_rules | `(tactic| walk_at "s") => `(tactic| first
  | with_reducible refine u_ifP ?_
  | with_reducible refine WP.imp ?_
  | refine ⟨_, fun _ => ?_, fun h => (Bool.false_ne_true h.symm).elim, fun _ _ t => t⟩
  | refine ⟨_, fun h => (Bool.false_ne_true h).elim, fun _ => ?_, fun _ _ t => t⟩
  | refine gx ?_
  | refine ⟨_, eqG_int _ _, ?_⟩
  | refine ⟨_, neG_int _ _, ?_⟩
  | refine ⟨_, eqG_txt _ _, ?_⟩
  | refine ⟨_, neG_txt _ _, ?_⟩
  | refine ⟨_, eqG_txt _ [], ?_⟩
  | refine ⟨_, neG_txt _ [], ?_⟩
  | refine ⟨_, vLen_txt (by omega), ?_⟩
  | refine ⟨_, vIx_tup 0 rfl rfl, ?_⟩
  | refine ⟨_, vIx_tup 1 rfl rfl, ?_⟩
  | refine ⟨_, vIx_tup 2 rfl rfl, ?_⟩
  | refine ⟨_, rfl, ?_⟩
  | refine And.intro (fun _ => ?_) (fun h => (Bool.false_ne_true h.symm).elim)
  | refine And.intro (fun h => (Bool.false_ne_true h).elim) (fun _ => ?_)
  | refine And.intro (fun _ => ?_) (fun h => (Bool.false_ne_true h).elim)
  | refine And.intro (fun h => (Bool.false_ne_true h.symm).elim) (fun _ => ?_)
  | refine And.intro (Nat.le_of_ble_eq_true rfl : _ ≤ 1000) ?_
  | refine And.intro (Nat.le_of_ble_eq_true rfl : _ ≤ 1000000) ?_
  | refine And.intro (by omega) ?_
  | refine And.intro (fun _ => ?_) (fun h => by exfalso; simp only [Bool.not_eq_true', Bool.not_eq_false', decide_eq_true_eq, decide_eq_false_iff_not] at h; omega)
  | refine And.intro (fun h => by exfalso; simp only [Bool.not_eq_true', Bool.not_eq_false', decide_eq_true_eq, decide_eq_false_iff_not] at h; omega) (fun _ => ?_))
local macro_rules | `(tactic| walk_at "w") => `(tactic| repeat (walk_at "s"))
theorem a_law_circle {n m : Nat} {rs : Ros} {Q : Val → Nat → Prop} (hr : okR rs) (hm1 : 1 ≤ m) (hm12 : m ≤ 12) (hn : 70 ≤ n) (h : ∀ w k, okL rs w → w ≠ [] → n ≤ k + 70 → Q (lnV w) k) : Al (s__law_circle [rosV rs, .int (m : Nat)]) n Q (fun _ _ => False) := by
  refine gd__law_circle ?_
  unfold m__law_circle
  walk_at "ev"
  walk_at "ex"
  walk_at "ev"
  refine u_next (a := n - 1) (by omega) (by omega) (by omega) fun c ca cb => ?_
  walk_at "ev"
  refine ⟨_, rfl, by omega, ?_⟩
  walk_at "ev"
  refine u_turns (fun i η a => ∃ (z : List Nat) (x4 x5 x6 x7 x8 : Option Val), η = [none, some (rosV rs), some (.int (m : Nat)), some (lnV z), x4, x5, x6, x7, x8] ∧ (z.length ≤ m ∧ ∀ k ∈ z, k ∈ badges rs) ∧ n ≤ a + 1 + 4 * i) _ 0 _ _ ⟨[], none, none, none, none, none, rfl, ⟨Nat.zero_le _, fun k hk => nomatch hk⟩, by omega⟩ ?_ ?_
  · rintro i d η a hd ⟨z, x4, x5, x6, x7, x8, rfl, ⟨hl, hz⟩, ha⟩
    have hi : i < 12 := by
      have := (List.getElem?_eq_some_iff.mp hd).1
      rw [List.length_map, List.length_range] at this
      omega
    rw [Nat.zero_add] at ha
    walk_at "ev"
    walk_at "ex"
    walk_at "ev"
    walk_at "ex"
    walk_at "ev"
    have h1 := hr.l1
    have h4 := hr.l4
    walk_at "ev"
    refine u_next (a := a - 1) (by omega) (by rw [List.length_map]; omega) (by rw [List.length_map]; omega) fun q qa qb => ?_
    rw [List.length_map] at qb
    obtain ⟨p, rfl⟩ := Int.eq_ofNat_of_zero_le qa
    have hp : p < rs.length := by omega
    have e0 : vIx (rosV rs) (.int (p : Nat)) = some (entV rs[p]) := vIx_tup p rfl (by rw [List.getElem?_map, List.getElem?_eq_getElem hp]; rfl)
    have hm : rs[p] ∈ rs := List.getElem_mem hp
    generalize rs[p] = r at e0 hm
    obtain ⟨mk, sz⟩ := r
    obtain ⟨_, z5⟩ := hr.ok _ hm
    walk_at "ev"
    refine ⟨_, e0, ?_⟩
    walk_at "ev"
    walk_at "ex"
    refine u_nx (u_seq (u_set' ?_))
    refine al_mono (Q := fun d k => ∃ t : Nat, d = .int (t : Nat) ∧ t ≤ z.length ∧ a ≤ k + 3) (E := fun _ _ => False) ?_ (fun d7 k1 ⟨t, e7, ht, hk1⟩ => ?_) fun _ _ h => h.elim
    · walk_at "ev"
      refine u_next (a := a - 2) (by omega) (by decide) (by decide) fun u ua ub => ?_
      walk_at "ev"
      refine ⟨_, rfl, _, rfl, fun _ => ?_, fun _ => ?_⟩
      · walk_at "ev"
        exact ⟨_, vLen_txt (by omega), z.length, rfl, Nat.le_refl _, by omega⟩
      · walk_at "ev"
        refine ⟨_, vLen_txt (by omega), ?_⟩
        walk_at "ev"
        walk_at "ex"
        walk_at "ev"
        refine u_next (a := a - 3) (by omega) (by omega) (by omega) fun v va vb => ?_
        walk_at "ev"
        exact ⟨v.toNat, by rw [Int.toNat_of_nonneg va], by omega, by omega⟩
    subst e7
    refine u_nx (u_seq (u_set' ?_))
    refine al_mono (Q := fun d k => ∃ y : List Nat, d = lnV y ∧ (∀ c ∈ y, c = mk) ∧ y.length ≤ 5 ∧ a ≤ k + 4) (E := fun _ _ => False) ?_ (fun d8 k2 ⟨y, e8, hy, hyl, hk2⟩ => ?_) fun _ _ h => h.elim
    · walk_at "ev"
      refine u_next (a := k1 - 1) (by omega) (by decide) (by decide) fun u ua ub => ?_
      walk_at "ev"
      refine ⟨_, rfl, _, rfl, fun _ => ?_, fun _ => ?_⟩
      · walk_at "ev"
        walk_at "ex"
        have hx : (1 : Int) ≤ (if (sz : Int) > 1 then (sz : Int) else 1) ∧ (if (sz : Int) > 1 then (sz : Int) else 1) ≤ 5 := by split <;> omega
        generalize (if (sz : Int) > 1 then (sz : Int) else 1) = v at hx
        walk_at "ev"
        refine ⟨_, vMul_txt v.toNat (by omega) (by omega), _, rfl, ?_, ?_, by omega⟩
        · intro c hc
          exact (List.mem_replicate.mp hc).2
        · rw [List.length_replicate]
          omega
      · walk_at "ev"
        exact ⟨[mk], rfl, fun c hc => by simpa using hc, by show 1 ≤ 5; decide, by omega⟩
    subst e8
    walk_at "ev"
    refine ⟨_, vLen_txt (by omega), ?_⟩
    walk_at "ev"
    refine ⟨_, vLen_txt (by omega), ?_⟩
    walk_at "ev"
    walk_at "ex"
    walk_at "ev"
    refine ⟨_, rfl, _, rfl, fun hle => ?_, fun hle => ?_⟩
    · walk_at "ev"
      refine ⟨t, rfl, ?_⟩
      walk_at "ev"
      refine ⟨_, vSl_0 t rfl (by omega), ?_⟩
      walk_at "ev"
      have hle' : (z.length : Int) + y.length ≤ (m : Nat) := of_decide_eq_true hle
      walk_at "ev"
      refine ⟨_, vAdd_txt (by rw [List.length_take]; omega), ?_⟩
      walk_at "ev"
      refine ⟨t, rfl, ?_⟩
      walk_at "ev"
      refine ⟨_, vSl_n t rfl (by omega), ?_⟩
      walk_at "ev"
      refine ⟨_, vAdd_txt (by rw [List.length_append, List.length_take, List.length_drop]; omega), ?_⟩
      walk_at "ev"
      refine ⟨_, _, _, _, _, _, rfl, ⟨by simp only [List.length_append, List.length_take, List.length_drop]; omega, fun c hc => ?_⟩, by omega⟩
      rw [List.mem_append, List.mem_append] at hc
      rcases hc with (hc | hc) | hc
      · exact hz c (List.mem_of_mem_take hc)
      · rw [hy c hc]
        exact List.mem_map.mpr ⟨_, hm, rfl⟩
      · exact hz c (List.mem_of_mem_drop hc)
    · walk_at "ev"
      exact ⟨z, _, _, _, _, _, rfl, ⟨hl, hz⟩, by omega⟩
  · rintro η a ⟨z, x4, x5, x6, x7, x8, rfl, hz, ha⟩
    rw [List.length_map, List.length_range, Nat.zero_add] at ha
    have h1 := hr.l1
    refine u_nx (u_seq (u_set' ?_))
    refine al_mono (Q := fun d k => ∃ y : List Nat, d = lnV y ∧ okL rs y ∧ y ≠ [] ∧ a ≤ k + 1) (E := fun _ _ => False) ?_ (fun d3 k1 ⟨y, e3, hy, hyn, hk1⟩ => ?_) fun _ _ h => h.elim
    · refine u_if (u_tst (u_bin ?_))
      by_cases hz0 : z = []
      · subst hz0
        refine u_vr' ?_
        walk_at "ev"
        refine ⟨_, neG_txt [] [], false, rfl, (fun h => nomatch h), fun _ => ?_⟩
        have h0 : 0 < rs.length := by omega
        have e0 : vIx (rosV rs) (.int 0) = some (entV rs[0]) := vIx_tup 0 rfl (by rw [List.getElem?_map, List.getElem?_eq_getElem h0]; rfl)
        have hm0 : rs[0] ∈ rs := List.getElem_mem h0
        generalize rs[0] = r0 at e0 hm0
        walk_at "ev"
        refine ⟨_, e0, ?_⟩
        walk_at "ev"
        refine ⟨_, rfl, ?_⟩
        walk_at "ev"
        refine u_next (a := a - 1) (by omega) (by omega) (by omega) fun v va vb => ?_
        walk_at "ev"
        refine ⟨_, rfl, ?_⟩
        walk_at "ev"
        refine ⟨_, vMul_txt (1 + v.toNat) (by omega) (by omega), ?_⟩
        walk_at "ev"
        refine ⟨_, rfl, ⟨by rw [List.length_replicate]; omega, fun c hc => ?_⟩, fun q => ?_, by omega⟩
        · rw [(List.mem_replicate.mp hc).2]
          exact List.mem_map.mpr ⟨_, hm0, rfl⟩
        · have := congrArg List.length q
          rw [List.length_replicate] at this
          have this : 1 + v.toNat = 0 := this
          omega
      · refine u_vr' ?_
        walk_at "ev"
        refine ⟨_, neG_txt z [], true, by rw [decide_eq_false hz0]; rfl, fun _ => ?_, fun h => nomatch h⟩
        walk_at "ev"
        exact ⟨z, rfl, ⟨by have := hz.1; omega, hz.2⟩, hz0, by omega⟩
    subst e3
    have hl := hy.len
    have hyl : 0 < y.length := List.length_pos_iff.mpr hyn
    walk_at "ev"
    refine ⟨_, vLen_txt (by omega), ?_⟩
    walk_at "ev"
    refine u_next (a := k1 - 1) (by omega) (by omega) (by omega) fun v va vb => ?_
    obtain ⟨i, rfl⟩ := Int.eq_ofNat_of_zero_le va
    walk_at "ev"
    refine ⟨_, rfl, ?_⟩
    walk_at "ev"
    refine ⟨_, vSl_n i rfl (by omega), ?_⟩
    walk_at "ev"
    refine ⟨_, rfl, ?_⟩
    walk_at "ev"
    refine ⟨_, vSl_0 i rfl (by omega), ?_⟩
    walk_at "ev"
    refine ⟨_, vAdd_txt (by rw [List.length_drop, List.length_take]; omega), ?_⟩
    exact h (rot y i) (k1 - 1) (rot_ok hy (by omega)) (rot_ne (by omega) hyn) (by omega)
end My
end
section
set_option Elab.async false
set_option linter.all false
set_option maxRecDepth 100000
set_option maxHeartbeats 4000000
namespace My
open PySem PySem.Spec PyProof.Rows L2 XK EV
local macro_rules | `(tactic| walk_at "ev") => `(tactic| repeat (with_reducible refine WP.imp ?_))
local macro_rules | `(tactic| walk_at "ex") => `(tactic| (first | refine gx ?_ | refine ⟨_, rfl, ?_⟩))
local macro_rules | `(tactic| walk_at "go") => `(tactic| repeat (first | with_reducible refine WP.imp ?_ | refine gx ?_ | refine ⟨_, rfl, ?_⟩))
local macro_rules | `(tactic| walk_at "s") => `(tactic| first
  | with_reducible refine u_ifP ?_
  | with_reducible refine WP.imp ?_
  | refine ⟨_, fun _ => ?_, fun h => (Bool.false_ne_true h.symm).elim, fun _ _ t => t⟩
  | refine ⟨_, fun h => (Bool.false_ne_true h).elim, fun _ => ?_, fun _ _ t => t⟩
  | refine gx ?_
  | refine ⟨_, eqG_int _ _, ?_⟩
  | refine ⟨_, neG_int _ _, ?_⟩
  | refine ⟨_, eqG_txt _ _, ?_⟩
  | refine ⟨_, neG_txt _ _, ?_⟩
  | refine ⟨_, eqG_txt _ [], ?_⟩
  | refine ⟨_, neG_txt _ [], ?_⟩
  | refine ⟨_, vLen_txt (by omega), ?_⟩
  | refine ⟨_, vIx_tup 0 rfl rfl, ?_⟩
  | refine ⟨_, vIx_tup 1 rfl rfl, ?_⟩
  | refine ⟨_, vIx_tup 2 rfl rfl, ?_⟩
  | refine ⟨_, rfl, ?_⟩
  | refine And.intro (fun _ => ?_) (fun h => (Bool.false_ne_true h.symm).elim)
  | refine And.intro (fun h => (Bool.false_ne_true h).elim) (fun _ => ?_)
  | refine And.intro (fun _ => ?_) (fun h => (Bool.false_ne_true h).elim)
  | refine And.intro (fun h => (Bool.false_ne_true h.symm).elim) (fun _ => ?_)
  | refine And.intro (Nat.le_of_ble_eq_true rfl : _ ≤ 1000) ?_
  | refine And.intro (Nat.le_of_ble_eq_true rfl : _ ≤ 1000000) ?_
  | refine And.intro (by omega) ?_
  | refine And.intro (fun _ => ?_) (fun h => by exfalso; simp only [Bool.not_eq_true', Bool.not_eq_false', decide_eq_true_eq, decide_eq_false_iff_not] at h; omega)
  | refine And.intro (fun h => by exfalso; simp only [Bool.not_eq_true', Bool.not_eq_false', decide_eq_true_eq, decide_eq_false_iff_not] at h; omega) (fun _ => ?_))
local macro_rules | `(tactic| walk_at "w") => `(tactic| repeat (walk_at "s"))
--raw
def bud : Nat := 12 * 90
theorem bud_ok : bud ≤ 999999000 := by decide
theorem law_right : ∀ ns : List Int, ns.length ≤ 63 → All (m_law (envL N_law.length ns)) bud (fun o _ => o = .rt (.bl true)) (fun _ _ => False) := by
  intro ns hns
  refine of_al ?_
  show Al (m_law [some (.lst (ns.map Val.int)), none, none, none, none]) bud _ _
  unfold m_law
  walk_at "w"
  have hm : ∃ m : Nat, (if (4 + ((ns.map Val.int).length : Int)) < 12 then 4 + ((ns.map Val.int).length : Int) else 12) = (m : Int) ∧ m ≤ 12 := by
    rw [List.length_map]
    split
    · exact ⟨4 + ns.length, by push_cast; rfl, by omega⟩
    · exact ⟨12, rfl, Nat.le_refl _⟩
  obtain ⟨m, em, hm⟩ := hm
  rw [em]
  refine u_turnsM (fun i : Nat => Val.int (i : Nat)) (fun i η a => (∃ x2 x3 x4, η = [some (.lst (ns.map Val.int)), none, x2, x3, x4]) ∧ 12 * 90 ≤ a + 90 * i) (List.range m) ⟨⟨none, none, none, rfl⟩, by show 12 * 90 ≤ 12 * 90 + 0; omega⟩ ?_ ?_
  · rintro i x η a hx ⟨⟨x2, x3, x4, rfl⟩, hb⟩
    obtain ⟨hi, -⟩ := List.getElem?_eq_some_iff.mp hx
    rw [List.length_range] at hi
    refine gx ?_
    walk_at "w"
    refine a_law_roster (by omega) fun rs k1 hr hk1 => ?_
    walk_at "w"
    refine u_next (a := k1 - 1) (by omega) (by decide) (by decide) fun j ja jb => ?_
    have hj : ∃ m : Nat, vIx (.lst [.int 3, .int 6, .int 12]) (.int j) = some (.int (m : Nat)) ∧ 1 ≤ m ∧ m ≤ 12 := by
      have : j = 0 ∨ j = 1 ∨ j = 2 := by omega
      rcases this with rfl | rfl | rfl
      · exact ⟨3, rfl, by decide, by decide⟩
      · exact ⟨6, rfl, by decide, by decide⟩
      · exact ⟨12, rfl, by decide, by decide⟩
    obtain ⟨mm, em, m1, m2⟩ := hj
    refine ⟨_, em, ?_⟩
    walk_at "w"
    refine a_law_circle hr m1 m2 (by omega) fun w k2 hz hw hk2 => ?_
    walk_at "w"
    refine u_ret (r_law_right hr hz hw) ?_
    walk_at "w"
    refine a_badge_right hr hz hw (by omega) ?_
    walk_at "w"
    exact ⟨⟨_, _, _, rfl⟩, by omega⟩
  · rintro η a ⟨⟨x2, x3, x4, rfl⟩, hb⟩
    walk_at "w"
    rfl
end My
end
set_option Elab.async false
set_option linter.all false
set_option maxRecDepth 100000
set_option maxHeartbeats 4000000
namespace My
open PySem PySem.Spec PyProof.Rows L2 XK EV
theorem all_mk {P : Program} {wd : World} {K : PySem.W.Frag} {h : Heap} {mg : Str → Option Value} {fa CInvalidRoster CInvalidPeople CInvalidBadge CInvalidWalk CNotPossible CCrewError CStateError CMissingError : Addr} {tMAX_BADGES tMAX_SIZE tMAX_PEOPLE tMAX_WALK : Tok} {ts : List Addr} {lc_law_step_right lp_law_step_right lc_law_badge_right lp_law_badge_right : Addr} (X : K.In h) (G : h.Ns mainGlobals mg) (hfa : mg "law" = some (.ref fa))
    (aInvalidRoster : PySem.W.nsIn K mainGlobals "InvalidRoster" = some (some (.ref CInvalidRoster)))
    (aInvalidPeople : PySem.W.nsIn K mainGlobals "InvalidPeople" = some (some (.ref CInvalidPeople)))
    (aInvalidBadge : PySem.W.nsIn K mainGlobals "InvalidBadge" = some (some (.ref CInvalidBadge)))
    (aInvalidWalk : PySem.W.nsIn K mainGlobals "InvalidWalk" = some (some (.ref CInvalidWalk)))
    (aNotPossible : PySem.W.nsIn K mainGlobals "NotPossible" = some (some (.ref CNotPossible)))
    (aCrewError : PySem.W.nsIn K mainGlobals "CrewError" = some (some (.ref CCrewError)))
    (aStateError : PySem.W.nsIn K mainGlobals "StateError" = some (some (.ref CStateError)))
    (aMissingError : PySem.W.nsIn K mainGlobals "MissingError" = some (some (.ref CMissingError)))
    (eInvalidRoster : Eo K "InvalidRoster" "InvalidRoster.__init__" "entry" I0_InvalidRoster CInvalidRoster)
    (eInvalidPeople : Eo K "InvalidPeople" "InvalidPeople.__init__" "place" I0_InvalidPeople CInvalidPeople)
    (eInvalidBadge : Eo K "InvalidBadge" "InvalidBadge.__init__" "badge" I0_InvalidBadge CInvalidBadge)
    (eInvalidWalk : Eo K "InvalidWalk" "InvalidWalk.__init__" "index" I0_InvalidWalk CInvalidWalk)
    (eNotPossible : Eo K "NotPossible" "NotPossible.__init__" "index" I0_NotPossible CNotPossible)
    (kCrewError : Cl K CCrewError)
    (kStateError : Cl K CStateError)
    (kMissingError : Cl K CMissingError)
    (kNotPossible : Cl K CNotPossible)
    (kInvalidBadge : Cl K CInvalidBadge)
    (sInvalidRoster_CrewError : PySem.W.subIn K (.ref CInvalidRoster) (.ref CCrewError) = some true)
    (sInvalidRoster_StateError : PySem.W.subIn K (.ref CInvalidRoster) (.ref CStateError) = some false)
    (sInvalidRoster_MissingError : PySem.W.subIn K (.ref CInvalidRoster) (.ref CMissingError) = some false)
    (sInvalidPeople_CrewError : PySem.W.subIn K (.ref CInvalidPeople) (.ref CCrewError) = some true)
    (sInvalidPeople_StateError : PySem.W.subIn K (.ref CInvalidPeople) (.ref CStateError) = some false)
    (sInvalidPeople_MissingError : PySem.W.subIn K (.ref CInvalidPeople) (.ref CMissingError) = some false)
    (sInvalidBadge_CrewError : PySem.W.subIn K (.ref CInvalidBadge) (.ref CCrewError) = some true)
    (sInvalidBadge_StateError : PySem.W.subIn K (.ref CInvalidBadge) (.ref CStateError) = some false)
    (sInvalidBadge_MissingError : PySem.W.subIn K (.ref CInvalidBadge) (.ref CMissingError) = some false)
    (sInvalidWalk_CrewError : PySem.W.subIn K (.ref CInvalidWalk) (.ref CCrewError) = some true)
    (sInvalidWalk_StateError : PySem.W.subIn K (.ref CInvalidWalk) (.ref CStateError) = some false)
    (sInvalidWalk_MissingError : PySem.W.subIn K (.ref CInvalidWalk) (.ref CMissingError) = some false)
    (sNotPossible_CrewError : PySem.W.subIn K (.ref CNotPossible) (.ref CCrewError) = some false)
    (sNotPossible_StateError : PySem.W.subIn K (.ref CNotPossible) (.ref CStateError) = some true)
    (sNotPossible_MissingError : PySem.W.subIn K (.ref CNotPossible) (.ref CMissingError) = some false)
    (sInvalidRoster_NotPossible : PySem.W.subIn K (.ref CInvalidRoster) (.ref CNotPossible) = some false)
    (sInvalidPeople_NotPossible : PySem.W.subIn K (.ref CInvalidPeople) (.ref CNotPossible) = some false)
    (sInvalidBadge_NotPossible : PySem.W.subIn K (.ref CInvalidBadge) (.ref CNotPossible) = some false)
    (sInvalidWalk_NotPossible : PySem.W.subIn K (.ref CInvalidWalk) (.ref CNotPossible) = some false)
    (sNotPossible_NotPossible : PySem.W.subIn K (.ref CNotPossible) (.ref CNotPossible) = some true)
    (sInvalidRoster_InvalidBadge : PySem.W.subIn K (.ref CInvalidRoster) (.ref CInvalidBadge) = some false)
    (sInvalidPeople_InvalidBadge : PySem.W.subIn K (.ref CInvalidPeople) (.ref CInvalidBadge) = some false)
    (sInvalidWalk_InvalidBadge : PySem.W.subIn K (.ref CInvalidWalk) (.ref CInvalidBadge) = some false)
    (sNotPossible_InvalidBadge : PySem.W.subIn K (.ref CNotPossible) (.ref CInvalidBadge) = some false)
    (sInvalidBadge_InvalidBadge : PySem.W.subIn K (.ref CInvalidBadge) (.ref CInvalidBadge) = some true)
    (mMAX_BADGES : PySem.W.nsIn K mainGlobals "MAX_BADGES" = some (some (.int 4 tMAX_BADGES)))
    (mMAX_SIZE : PySem.W.nsIn K mainGlobals "MAX_SIZE" = some (some (.int 5 tMAX_SIZE)))
    (mMAX_PEOPLE : PySem.W.nsIn K mainGlobals "MAX_PEOPLE" = some (some (.int 12 tMAX_PEOPLE)))
    (mMAX_WALK : PySem.W.nsIn K mainGlobals "MAX_WALK" = some (some (.int 1000 tMAX_WALK)))
    (bInvalidRoster_RuntimeError : PySem.W.kitOne K (.ref CInvalidRoster) (.type "RuntimeError") = some false)
    (bInvalidPeople_RuntimeError : PySem.W.kitOne K (.ref CInvalidPeople) (.type "RuntimeError") = some false)
    (bInvalidBadge_RuntimeError : PySem.W.kitOne K (.ref CInvalidBadge) (.type "RuntimeError") = some false)
    (bInvalidWalk_RuntimeError : PySem.W.kitOne K (.ref CInvalidWalk) (.type "RuntimeError") = some false)
    (bNotPossible_RuntimeError : PySem.W.kitOne K (.ref CNotPossible) (.type "RuntimeError") = some true)
    (bInvalidRoster_ValueError : PySem.W.kitOne K (.ref CInvalidRoster) (.type "ValueError") = some true)
    (bInvalidPeople_ValueError : PySem.W.kitOne K (.ref CInvalidPeople) (.type "ValueError") = some true)
    (bInvalidBadge_ValueError : PySem.W.kitOne K (.ref CInvalidBadge) (.type "ValueError") = some true)
    (bInvalidWalk_ValueError : PySem.W.kitOne K (.ref CInvalidWalk) (.type "ValueError") = some true)
    (bNotPossible_ValueError : PySem.W.kitOne K (.ref CNotPossible) (.type "ValueError") = some false)
    (dis_int : Dn K "is_int" S_is_int)
    (dcheck_roster : Dn K "check_roster" S_check_roster)
    (dbadges_of : Dn K "badges_of" S_badges_of)
    (dsize_of : Dn K "size_of" S_size_of)
    (d_is_entry : Dn K "_is_entry" S__is_entry)
    (d_is_badge : Dn K "_is_badge" S__is_badge)
    (d_is_size : Dn K "_is_size" S__is_size)
    (dcheck_line : Dn K "check_line" S_check_line)
    (dcheck_ring : Dn K "check_ring" S_check_ring)
    (dturned : Dn K "turned" S_turned)
    (dcheck_walk : Dn K "check_walk" S_check_walk)
    (dsteps_to_try : Dn K "steps_to_try" S_steps_to_try)
    (dis_crew_at : Dn K "is_crew_at" S_is_crew_at)
    (dis_possible : Dn K "is_possible" S_is_possible)
    (dafter_step : Dn K "after_step" S_after_step)
    (d_is_step : Dn K "_is_step" S__is_step)
    (d_is_place : Dn K "_is_place" S__is_place)
    (d_is_side : Dn K "_is_side" S__is_side)
    (dring_crews_at : Dn K "ring_crews_at" S_ring_crews_at)
    (dring_steps_of : DnK K "ring_steps_of" S_ring_steps_of [("badge", .non)])
    (dring_after_walk : Dn K "ring_after_walk" S_ring_after_walk)
    (d_after_ring_step : Dn K "_after_ring_step" S__after_ring_step)
    (d_law_begin : Dn K "_law_begin" S__law_begin)
    (d_law_mixed : Dn K "_law_mixed" S__law_mixed)
    (d_law_next : Dn K "_law_next" S__law_next)
    (d_law_roster : Dn K "_law_roster" S__law_roster)
    (d_law_circle : Dn K "_law_circle" S__law_circle)
    (d_law_crew : Dn K "_law_crew" S__law_crew)
    (d_law_moved : Dn K "_law_moved" S__law_moved)
    (d_law_raised : Dn K "_law_raised" S__law_raised)
    (d_law_step_right : Mk K "_law_step_right" S__law_step_right lc_law_step_right lp_law_step_right)
    (d_law_badge_right : Mk K "_law_badge_right" S__law_badge_right lc_law_badge_right lp_law_badge_right)
    (d_law_right : Dn K "_law_right" S__law_right)
    (dlaw : Dn K "law" S_law)
    (l_law_step_right : K.lookup lp_law_step_right = none)
    (i_law_step_right : lp_law_step_right ∈ ts)
    (l_law_badge_right : K.lookup lp_law_badge_right = none)
    (i_law_badge_right : lp_law_badge_right ∈ ts)
    (u_law_step_right__law_badge_right : lp_law_step_right ≠ lp_law_badge_right)
    (zisinstance : PySem.W.nsIn K mainGlobals "isinstance" = some none)
    (zint : PySem.W.nsIn K mainGlobals "int" = some none)
    (zbool : PySem.W.nsIn K mainGlobals "bool" = some none)
    (zenumerate : PySem.W.nsIn K mainGlobals "enumerate" = some none)
    (ztuple : PySem.W.nsIn K mainGlobals "tuple" = some none)
    (zlen : PySem.W.nsIn K mainGlobals "len" = some none)
    (zstr : PySem.W.nsIn K mainGlobals "str" = some none)
    (zdict : PySem.W.nsIn K mainGlobals "dict" = some none)
    (zrange : PySem.W.nsIn K mainGlobals "range" = some none)
    (zmax : PySem.W.nsIn K mainGlobals "max" = some none)
    (zlist : PySem.W.nsIn K mainGlobals "list" = some none)
    (zRuntimeError : PySem.W.nsIn K mainGlobals "RuntimeError" = some none)
    (zrepr : PySem.W.nsIn K mainGlobals "repr" = some none)
    (zValueError : PySem.W.nsIn K mainGlobals "ValueError" = some none)
    (zmin : PySem.W.nsIn K mainGlobals "min" = some none)
    : ∃ (fd : FuncData) (cs : List (Addr × Addr)) (sp : Sp), (∀ p ∈ cs, p.2 ∈ ts ∧ K.lookup p.2 = none ∧ PySem.W.CodeHd h p.1 p.2) ∧ (∀ (s : Shared) (u : Value), BindsTo s fd ⟨[u], []⟩ [("script", u)]) ∧ (∀ (H : Hp) (a : Addr) (zs : List Int), zs.length ≤ 63 → (∀ p ∈ cs, H p.2 = some (.tbl #[])) → SqL K H a (zs.map V.int) → sp [.ref a] H (fun v _ => v = .bl true) E0) ∧ ∀ base : Heap, K.In base → base.Ns mainGlobals mg → (∀ p ∈ cs, LamX.TabB base mg p.1 p.2) → FnG P wd K mg base 15 fa fd ["script"] sp := by
  have mgv : ∀ {n : Str} {v : Value}, PySem.W.nsIn K mainGlobals n = some (some v) → mg n = some v := fun e => PySem.W.mg_of X G e
  have mgn : ∀ {n : Str}, PySem.W.nsIn K mainGlobals n = some none → mg n = none := fun e => PySem.W.mg_none_of X G e
  obtain ⟨iInvalidRoster, wInvalidRoster, TInvalidRoster, IInvalidRoster⟩ := eInvalidRoster
  obtain ⟨iInvalidPeople, wInvalidPeople, TInvalidPeople, IInvalidPeople⟩ := eInvalidPeople
  obtain ⟨iInvalidBadge, wInvalidBadge, TInvalidBadge, IInvalidBadge⟩ := eInvalidBadge
  obtain ⟨iInvalidWalk, wInvalidWalk, TInvalidWalk, IInvalidWalk⟩ := eInvalidWalk
  obtain ⟨iNotPossible, wNotPossible, TNotPossible, INotPossible⟩ := eNotPossible
  obtain ⟨fis_int, gis_int, nis_int, Fis_int⟩ := dis_int
  obtain ⟨fcheck_roster, gcheck_roster, ncheck_roster, Fcheck_roster⟩ := dcheck_roster
  obtain ⟨fbadges_of, gbadges_of, nbadges_of, Fbadges_of⟩ := dbadges_of
  obtain ⟨fsize_of, gsize_of, nsize_of, Fsize_of⟩ := dsize_of
  obtain ⟨f_is_entry, g_is_entry, n_is_entry, F_is_entry⟩ := d_is_entry
  obtain ⟨f_is_badge, g_is_badge, n_is_badge, F_is_badge⟩ := d_is_badge
  obtain ⟨f_is_size, g_is_size, n_is_size, F_is_size⟩ := d_is_size
  obtain ⟨fcheck_line, gcheck_line, ncheck_line, Fcheck_line⟩ := dcheck_line
  obtain ⟨fcheck_ring, gcheck_ring, ncheck_ring, Fcheck_ring⟩ := dcheck_ring
  obtain ⟨fturned, gturned, nturned, Fturned⟩ := dturned
  obtain ⟨fcheck_walk, gcheck_walk, ncheck_walk, Fcheck_walk⟩ := dcheck_walk
  obtain ⟨fsteps_to_try, gsteps_to_try, nsteps_to_try, Fsteps_to_try⟩ := dsteps_to_try
  obtain ⟨fis_crew_at, gis_crew_at, nis_crew_at, Fis_crew_at⟩ := dis_crew_at
  obtain ⟨fis_possible, gis_possible, nis_possible, Fis_possible⟩ := dis_possible
  obtain ⟨fafter_step, gafter_step, nafter_step, Fafter_step⟩ := dafter_step
  obtain ⟨f_is_step, g_is_step, n_is_step, F_is_step⟩ := d_is_step
  obtain ⟨f_is_place, g_is_place, n_is_place, F_is_place⟩ := d_is_place
  obtain ⟨f_is_side, g_is_side, n_is_side, F_is_side⟩ := d_is_side
  obtain ⟨fring_crews_at, gring_crews_at, nring_crews_at, Fring_crews_at⟩ := dring_crews_at
  obtain ⟨fring_steps_of, gring_steps_of, nring_steps_of, Dring_steps_of⟩ := dring_steps_of
  have Fring_steps_of := fun_of Dring_steps_of
  obtain ⟨fring_after_walk, gring_after_walk, nring_after_walk, Fring_after_walk⟩ := dring_after_walk
  obtain ⟨f_after_ring_step, g_after_ring_step, n_after_ring_step, F_after_ring_step⟩ := d_after_ring_step
  obtain ⟨f_law_begin, g_law_begin, n_law_begin, F_law_begin⟩ := d_law_begin
  obtain ⟨f_law_mixed, g_law_mixed, n_law_mixed, F_law_mixed⟩ := d_law_mixed
  obtain ⟨f_law_next, g_law_next, n_law_next, F_law_next⟩ := d_law_next
  obtain ⟨f_law_roster, g_law_roster, n_law_roster, F_law_roster⟩ := d_law_roster
  obtain ⟨f_law_circle, g_law_circle, n_law_circle, F_law_circle⟩ := d_law_circle
  obtain ⟨f_law_crew, g_law_crew, n_law_crew, F_law_crew⟩ := d_law_crew
  obtain ⟨f_law_moved, g_law_moved, n_law_moved, F_law_moved⟩ := d_law_moved
  obtain ⟨f_law_raised, g_law_raised, n_law_raised, F_law_raised⟩ := d_law_raised
  obtain ⟨f_law_step_right, g_law_step_right, n_law_step_right, F_law_step_right, k_law_step_right, h_law_step_right⟩ := d_law_step_right
  obtain ⟨f_law_badge_right, g_law_badge_right, n_law_badge_right, F_law_badge_right, k_law_badge_right, h_law_badge_right⟩ := d_law_badge_right
  obtain ⟨f_law_right, g_law_right, n_law_right, F_law_right⟩ := d_law_right
  obtain ⟨flaw, glaw, nlaw, Flaw⟩ := dlaw
  have e := hfa.symm.trans (mgv nlaw)
  cases e
  obtain ⟨oc, od, kV, doc, pm, an, cdv, ct, osl, rfl, lk, hcd⟩ := Flaw.ex
  refine ⟨PySem.W.fnOf "law" "law" (defArgs S_law) (defBody S_law) (defScope S_law) .none kV doc pm an cdv ct, [(lc_law_step_right, lp_law_step_right), (lc_law_badge_right, lp_law_badge_right)], spLaw K [(lp_law_step_right, lamName "_law_step_right"), (lp_law_badge_right, lamName "_law_badge_right")], ?_, fun s u => .of_eq rfl, ?_, fun base _ _ TB => ?_⟩
  · intro p hp
    simp only [List.mem_cons, List.not_mem_nil, or_false] at hp
    rcases hp with rfl | rfl
    · exact ⟨i_law_step_right, l_law_step_right, PySem.W.codeHd_of_K X h_law_step_right⟩
    · exact ⟨i_law_badge_right, l_law_badge_right, PySem.W.codeHd_of_K X h_law_badge_right⟩
  · intro H a zs hl ht hS
    refine ⟨a, zs, rfl, hS, hl, ?_, fun _ => rfl⟩
    intro p hp
    simp only [List.mem_cons, List.not_mem_nil, or_false] at hp
    rcases hp with rfl | rfl
    · exact LamX.TabS.nil (ht (lc_law_step_right, lp_law_step_right) (by simp))
    · exact LamX.TabS.nil (ht (lc_law_badge_right, lp_law_badge_right) (by simp))
  let Z : Wd K mg base := {
      f_is_int := fis_int, d_is_int := gis_int, F_is_int := Fis_int, n_is_int := (mgv nis_int),
      b_is_int := (Fis_int.binds (ps := ["thing"]) fun _ _ _ _ _ _ us hl => match us, hl with | [_], _ => rfl),
      f_check_roster := fcheck_roster, d_check_roster := gcheck_roster, F_check_roster := Fcheck_roster, n_check_roster := (mgv ncheck_roster),
      b_check_roster := (Fcheck_roster.binds (ps := ["roster"]) fun _ _ _ _ _ _ us hl => match us, hl with | [_], _ => rfl),
      f_badges_of := fbadges_of, d_badges_of := gbadges_of, F_badges_of := Fbadges_of, n_badges_of := (mgv nbadges_of),
      b_badges_of := (Fbadges_of.binds (ps := ["roster"]) fun _ _ _ _ _ _ us hl => match us, hl with | [_], _ => rfl),
      f_size_of := fsize_of, d_size_of := gsize_of, F_size_of := Fsize_of, n_size_of := (mgv nsize_of),
      b_size_of := (Fsize_of.binds (ps := ["roster", "badge"]) fun _ _ _ _ _ _ us hl => match us, hl with | [_, _], _ => rfl),
      f__is_entry := f_is_entry, d__is_entry := g_is_entry, F__is_entry := F_is_entry, n__is_entry := (mgv n_is_entry),
      b__is_entry := (F_is_entry.binds (ps := ["item"]) fun _ _ _ _ _ _ us hl => match us, hl with | [_], _ => rfl),
      f__is_badge := f_is_badge, d__is_badge := g_is_badge, F__is_badge := F_is_badge, n__is_badge := (mgv n_is_badge),
      b__is_badge := (F_is_badge.binds (ps := ["thing"]) fun _ _ _ _ _ _ us hl => match us, hl with | [_], _ => rfl),
      f__is_size := f_is_size, d__is_size := g_is_size, F__is_size := F_is_size, n__is_size := (mgv n_is_size),
      b__is_size := (F_is_size.binds (ps := ["thing"]) fun _ _ _ _ _ _ us hl => match us, hl with | [_], _ => rfl),
      f_check_line := fcheck_line, d_check_line := gcheck_line, F_check_line := Fcheck_line, n_check_line := (mgv ncheck_line),
      b_check_line := (Fcheck_line.binds (ps := ["roster", "line"]) fun _ _ _ _ _ _ us hl => match us, hl with | [_, _], _ => rfl),
      f_check_ring := fcheck_ring, d_check_ring := gcheck_ring, F_check_ring := Fcheck_ring, n_check_ring := (mgv ncheck_ring),
      b_check_ring := (Fcheck_ring.binds (ps := ["roster", "ring"]) fun _ _ _ _ _ _ us hl => match us, hl with | [_, _], _ => rfl),
      f_turned := fturned, d_turned := gturned, F_turned := Fturned, n_turned := (mgv nturned),
      b_turned := (Fturned.binds (ps := ["roster", "ring", "by"]) fun _ _ _ _ _ _ us hl => match us, hl with | [_, _, _], _ => rfl),
      f_check_walk := fcheck_walk, d_check_walk := gcheck_walk, F_check_walk := Fcheck_walk, n_check_walk := (mgv ncheck_walk),
      b_check_walk := (Fcheck_walk.binds (ps := ["walk"]) fun _ _ _ _ _ _ us hl => match us, hl with | [_], _ => rfl),
      f_steps_to_try := fsteps_to_try, d_steps_to_try := gsteps_to_try, F_steps_to_try := Fsteps_to_try, n_steps_to_try := (mgv nsteps_to_try),
      b_steps_to_try := (Fsteps_to_try.binds (ps := ["roster", "people", "badge"]) fun _ _ _ _ _ _ us hl => match us, hl with | [_, _, _], _ => rfl),
      f_is_crew_at := fis_crew_at, d_is_crew_at := gis_crew_at, F_is_crew_at := Fis_crew_at, n_is_crew_at := (mgv nis_crew_at),
      b_is_crew_at := (Fis_crew_at.binds (ps := ["sizes", "line", "place"]) fun _ _ _ _ _ _ us hl => match us, hl with | [_, _, _], _ => rfl),
      f_is_possible := fis_possible, d_is_possible := gis_possible, F_is_possible := Fis_possible, n_is_possible := (mgv nis_possible),
      b_is_possible := (Fis_possible.binds (ps := ["sizes", "line", "step"]) fun _ _ _ _ _ _ us hl => match us, hl with | [_, _, _], _ => rfl),
      f_after_step := fafter_step, d_after_step := gafter_step, F_after_step := Fafter_step, n_after_step := (mgv nafter_step),
      b_after_step := (Fafter_step.binds (ps := ["sizes", "line", "step"]) fun _ _ _ _ _ _ us hl => match us, hl with | [_, _, _], _ => rfl),
      f__is_step := f_is_step, d__is_step := g_is_step, F__is_step := F_is_step, n__is_step := (mgv n_is_step),
      b__is_step := (F_is_step.binds (ps := ["thing"]) fun _ _ _ _ _ _ us hl => match us, hl with | [_], _ => rfl),
      f__is_place := f_is_place, d__is_place := g_is_place, F__is_place := F_is_place, n__is_place := (mgv n_is_place),
      b__is_place := (F_is_place.binds (ps := ["thing"]) fun _ _ _ _ _ _ us hl => match us, hl with | [_], _ => rfl),
      f__is_side := f_is_side, d__is_side := g_is_side, F__is_side := F_is_side, n__is_side := (mgv n_is_side),
      b__is_side := (F_is_side.binds (ps := ["thing"]) fun _ _ _ _ _ _ us hl => match us, hl with | [_], _ => rfl),
      f_ring_crews_at := fring_crews_at, d_ring_crews_at := gring_crews_at, F_ring_crews_at := Fring_crews_at, n_ring_crews_at := (mgv nring_crews_at),
      b_ring_crews_at := (Fring_crews_at.binds (ps := ["roster", "ring"]) fun _ _ _ _ _ _ us hl => match us, hl with | [_, _], _ => rfl),
      f_ring_steps_of := fring_steps_of, d_ring_steps_of := gring_steps_of, F_ring_steps_of := Fring_steps_of, n_ring_steps_of := (mgv nring_steps_of),
      bd_ring_steps_of := Dring_steps_of.binds0 2 (by simp) rfl (fun _ _ _ _ _ _ us ks h1 h2 => match us, h1, ks, h2 with | [_, _], _, [_], _ => ⟨_, _, _, _, _, _, rfl, rfl, rfl⟩),
      f_ring_after_walk := fring_after_walk, d_ring_after_walk := gring_after_walk, F_ring_after_walk := Fring_after_walk, n_ring_after_walk := (mgv nring_after_walk),
      b_ring_after_walk := (Fring_after_walk.binds (ps := ["roster", "ring", "walk"]) fun _ _ _ _ _ _ us hl => match us, hl with | [_, _, _], _ => rfl),
      f__after_ring_step := f_after_ring_step, d__after_ring_step := g_after_ring_step, F__after_ring_step := F_after_ring_step, n__after_ring_step := (mgv n_after_ring_step),
      b__after_ring_step := (F_after_ring_step.binds (ps := ["roster", "ring", "step"]) fun _ _ _ _ _ _ us hl => match us, hl with | [_, _, _], _ => rfl),
      f__law_begin := f_law_begin, d__law_begin := g_law_begin, F__law_begin := F_law_begin, n__law_begin := (mgv n_law_begin),
      b__law_begin := (F_law_begin.binds (ps := ["script"]) fun _ _ _ _ _ _ us hl => match us, hl with | [_], _ => rfl),
      f__law_mixed := f_law_mixed, d__law_mixed := g_law_mixed, F__law_mixed := F_law_mixed, n__law_mixed := (mgv n_law_mixed),
      b__law_mixed := (F_law_mixed.binds (ps := ["cell", "k"]) fun _ _ _ _ _ _ us hl => match us, hl with | [_, _], _ => rfl),
      f__law_next := f_law_next, d__law_next := g_law_next, F__law_next := F_law_next, n__law_next := (mgv n_law_next),
      b__law_next := (F_law_next.binds (ps := ["draw", "bound"]) fun _ _ _ _ _ _ us hl => match us, hl with | [_, _], _ => rfl),
      f__law_roster := f_law_roster, d__law_roster := g_law_roster, F__law_roster := F_law_roster, n__law_roster := (mgv n_law_roster),
      b__law_roster := (F_law_roster.binds (ps := ["draw"]) fun _ _ _ _ _ _ us hl => match us, hl with | [_], _ => rfl),
      f__law_circle := f_law_circle, d__law_circle := g_law_circle, F__law_circle := F_law_circle, n__law_circle := (mgv n_law_circle),
      b__law_circle := (F_law_circle.binds (ps := ["draw", "table", "most"]) fun _ _ _ _ _ _ us hl => match us, hl with | [_, _, _], _ => rfl),
      f__law_crew := f_law_crew, d__law_crew := g_law_crew, F__law_crew := F_law_crew, n__law_crew := (mgv n_law_crew),
      b__law_crew := (F_law_crew.binds (ps := ["sizes", "row", "at"]) fun _ _ _ _ _ _ us hl => match us, hl with | [_, _, _], _ => rfl),
      f__law_moved := f_law_moved, d__law_moved := g_law_moved, F__law_moved := F_law_moved, n__law_moved := (mgv n_law_moved),
      b__law_moved := (F_law_moved.binds (ps := ["sizes", "row", "step"]) fun _ _ _ _ _ _ us hl => match us, hl with | [_, _, _], _ => rfl),
      f__law_raised := f_law_raised, d__law_raised := g_law_raised, F__law_raised := F_law_raised, n__law_raised := (mgv n_law_raised),
      b__law_raised := (F_law_raised.binds (ps := ["call"]) fun _ _ _ _ _ _ us hl => match us, hl with | [_], _ => rfl),
      f__law_step_right := f_law_step_right, d__law_step_right := g_law_step_right, F__law_step_right := F_law_step_right, n__law_step_right := (mgv n_law_step_right),
      b__law_step_right := (F_law_step_right.binds (ps := ["table", "row", "step", "due"]) fun _ _ _ _ _ _ us hl => match us, hl with | [_, _, _, _], _ => rfl),
      f__law_badge_right := f_law_badge_right, d__law_badge_right := g_law_badge_right, F__law_badge_right := F_law_badge_right, n__law_badge_right := (mgv n_law_badge_right),
      b__law_badge_right := (F_law_badge_right.binds (ps := ["draw", "table", "row"]) fun _ _ _ _ _ _ us hl => match us, hl with | [_, _, _], _ => rfl),
      f__law_right := f_law_right, d__law_right := g_law_right, F__law_right := F_law_right, n__law_right := (mgv n_law_right),
      b__law_right := (F_law_right.binds (ps := ["table", "row"]) fun _ _ _ _ _ _ us hl => match us, hl with | [_, _], _ => rfl),
      f_law := fa, d_law := _, F_law := Flaw, n_law := (mgv nlaw),
      b_law := (Flaw.binds (ps := ["script"]) fun _ _ _ _ _ _ us hl => match us, hl with | [_], _ => rfl),
      kb_ring_steps_of_2_badge := kb_of Fring_steps_of (fun _ _ _ _ _ _ us ws hl => by
        by_cases hh : us.length = 2 ∧ ws.length = 1
        · obtain ⟨h1, h2⟩ := hh
          match us, h1, ws, h2 with
          | [_, _], _, [_], _ => rfl
        · unfold gK at hl
          rw [if_neg hh] at hl
          cases hl) fun r s => gK_vals r s,
      kb_ring_crews_at_0_ring_roster := kb_of Fring_crews_at (fun _ _ _ _ _ _ us ws hl => by
        by_cases hh : us.length = 0 ∧ ws.length = 2
        · obtain ⟨h1, h2⟩ := hh
          match us, h1, ws, h2 with
          | [], _, [_, _], _ => rfl
        · unfold gK at hl
          rw [if_neg hh] at hl
          cases hl) fun r s => gK_vals r s,
      kb_ring_steps_of_0_badge_ring_roster := kb_of Fring_steps_of (fun _ _ _ _ _ _ us ws hl => by
        by_cases hh : us.length = 0 ∧ ws.length = 3
        · obtain ⟨h1, h2⟩ := hh
          match us, h1, ws, h2 with
          | [], _, [_, _, _], _ => rfl
        · unfold gK at hl
          rw [if_neg hh] at hl
          cases hl) fun r s => gK_vals r s,
      C_InvalidRoster := CInvalidRoster, i_InvalidRoster := iInvalidRoster, e_InvalidRoster := wInvalidRoster, T_InvalidRoster := TInvalidRoster mg (mgv aInvalidRoster), I_InvalidRoster := IInvalidRoster, n_InvalidRoster := mgv aInvalidRoster,
      bi_InvalidRoster := (IInvalidRoster.binds (ps := ["self", "entry"]) fun _ _ _ _ _ _ us hl => match us, hl with | [_, _], _ => rfl),
      C_InvalidPeople := CInvalidPeople, i_InvalidPeople := iInvalidPeople, e_InvalidPeople := wInvalidPeople, T_InvalidPeople := TInvalidPeople mg (mgv aInvalidPeople), I_InvalidPeople := IInvalidPeople, n_InvalidPeople := mgv aInvalidPeople,
      bi_InvalidPeople := (IInvalidPeople.binds (ps := ["self", "place"]) fun _ _ _ _ _ _ us hl => match us, hl with | [_, _], _ => rfl),
      C_InvalidBadge := CInvalidBadge, i_InvalidBadge := iInvalidBadge, e_InvalidBadge := wInvalidBadge, T_InvalidBadge := TInvalidBadge mg (mgv aInvalidBadge), I_InvalidBadge := IInvalidBadge, n_InvalidBadge := mgv aInvalidBadge,
      bi_InvalidBadge := (IInvalidBadge.binds (ps := ["self", "badge"]) fun _ _ _ _ _ _ us hl => match us, hl with | [_, _], _ => rfl),
      C_InvalidWalk := CInvalidWalk, i_InvalidWalk := iInvalidWalk, e_InvalidWalk := wInvalidWalk, T_InvalidWalk := TInvalidWalk mg (mgv aInvalidWalk), I_InvalidWalk := IInvalidWalk, n_InvalidWalk := mgv aInvalidWalk,
      bi_InvalidWalk := (IInvalidWalk.binds (ps := ["self", "index"]) fun _ _ _ _ _ _ us hl => match us, hl with | [_, _], _ => rfl),
      C_NotPossible := CNotPossible, i_NotPossible := iNotPossible, e_NotPossible := wNotPossible, T_NotPossible := TNotPossible mg (mgv aNotPossible), I_NotPossible := INotPossible, n_NotPossible := mgv aNotPossible,
      bi_NotPossible := (INotPossible.binds (ps := ["self", "index"]) fun _ _ _ _ _ _ us hl => match us, hl with | [_, _], _ => rfl),
      C_CrewError := CCrewError, n_CrewError := mgv aCrewError,
      C_StateError := CStateError, n_StateError := mgv aStateError,
      C_MissingError := CMissingError, n_MissingError := mgv aMissingError,
      x_all := (fun q hq => by
        simp only [List.mem_cons, List.not_mem_nil, or_false] at hq
        rcases hq with rfl | rfl | rfl | rfl | rfl
        · exact ⟨(TInvalidRoster mg (mgv aInvalidRoster)).xf, (TInvalidRoster mg (mgv aInvalidRoster)).ec⟩
        · exact ⟨(TInvalidPeople mg (mgv aInvalidPeople)).xf, (TInvalidPeople mg (mgv aInvalidPeople)).ec⟩
        · exact ⟨(TInvalidBadge mg (mgv aInvalidBadge)).xf, (TInvalidBadge mg (mgv aInvalidBadge)).ec⟩
        · exact ⟨(TInvalidWalk mg (mgv aInvalidWalk)).xf, (TInvalidWalk mg (mgv aInvalidWalk)).ec⟩
        · exact ⟨(TNotPossible mg (mgv aNotPossible)).xf, (TNotPossible mg (mgv aNotPossible)).ec⟩),
      x_exm_CrewError_StateError_MissingError := (fun q hq => by
        simp only [List.mem_cons, List.not_mem_nil, or_false] at hq
        rcases hq with rfl | rfl | rfl | rfl | rfl
        · exact exm3 kCrewError kStateError kMissingError sInvalidRoster_CrewError sInvalidRoster_StateError sInvalidRoster_MissingError
        · exact exm3 kCrewError kStateError kMissingError sInvalidPeople_CrewError sInvalidPeople_StateError sInvalidPeople_MissingError
        · exact exm3 kCrewError kStateError kMissingError sInvalidBadge_CrewError sInvalidBadge_StateError sInvalidBadge_MissingError
        · exact exm3 kCrewError kStateError kMissingError sInvalidWalk_CrewError sInvalidWalk_StateError sInvalidWalk_MissingError
        · exact exm3 kCrewError kStateError kMissingError sNotPossible_CrewError sNotPossible_StateError sNotPossible_MissingError),
      x_is_NotPossible := (fun q hq => by
        simp only [List.mem_cons, List.not_mem_nil, or_false] at hq
        rcases hq with rfl | rfl | rfl | rfl | rfl
        · exact kit_no kNotPossible sInvalidRoster_NotPossible sNotPossible_NotPossible
        · exact kit_no kNotPossible sInvalidPeople_NotPossible sNotPossible_NotPossible
        · exact kit_no kNotPossible sInvalidBadge_NotPossible sNotPossible_NotPossible
        · exact kit_no kNotPossible sInvalidWalk_NotPossible sNotPossible_NotPossible
        · exact kit_self),
      x_is_InvalidBadge := (fun q hq => by
        simp only [List.mem_cons, List.not_mem_nil, or_false] at hq
        rcases hq with rfl | rfl | rfl | rfl | rfl
        · exact kit_no kInvalidBadge sInvalidRoster_InvalidBadge sInvalidBadge_InvalidBadge
        · exact kit_no kInvalidBadge sInvalidPeople_InvalidBadge sInvalidBadge_InvalidBadge
        · exact kit_self
        · exact kit_no kInvalidBadge sInvalidWalk_InvalidBadge sInvalidBadge_InvalidBadge
        · exact kit_no kInvalidBadge sNotPossible_InvalidBadge sInvalidBadge_InvalidBadge),
      x_ib_RuntimeError := (fun q hq => by
        simp only [List.mem_cons, List.not_mem_nil, or_false] at hq
        rcases hq with rfl | rfl | rfl | rfl | rfl
        · exact bInvalidRoster_RuntimeError.trans rfl
        · exact bInvalidPeople_RuntimeError.trans rfl
        · exact bInvalidBadge_RuntimeError.trans rfl
        · exact bInvalidWalk_RuntimeError.trans rfl
        · exact bNotPossible_RuntimeError.trans rfl),
      x_ib_ValueError := (fun q hq => by
        simp only [List.mem_cons, List.not_mem_nil, or_false] at hq
        rcases hq with rfl | rfl | rfl | rfl | rfl
        · exact bInvalidRoster_ValueError.trans rfl
        · exact bInvalidPeople_ValueError.trans rfl
        · exact bInvalidBadge_ValueError.trans rfl
        · exact bInvalidWalk_ValueError.trans rfl
        · exact bNotPossible_ValueError.trans rfl),
      lc__law_step_right := lc_law_step_right, lp__law_step_right := lp_law_step_right, dc__law_step_right := k_law_step_right, tb__law_step_right := TB (lc_law_step_right, lp_law_step_right) (by simp),
      lc__law_badge_right := lc_law_badge_right, lp__law_badge_right := lp_law_badge_right, dc__law_badge_right := k_law_badge_right, tb__law_badge_right := TB (lc_law_badge_right, lp_law_badge_right) (by simp),
      tbU := (fun p hp q hq e => by
        simp only [List.mem_cons, List.not_mem_nil, or_false] at hp hq
        rcases hp with rfl | rfl <;> rcases hq with rfl | rfl <;> first | exact absurd e u_law_step_right__law_badge_right | exact absurd e.symm u_law_step_right__law_badge_right | rfl),
      k_MAX_BADGES := ⟨_, mgv mMAX_BADGES, ⟨_, rfl⟩⟩,
      k_MAX_SIZE := ⟨_, mgv mMAX_SIZE, ⟨_, rfl⟩⟩,
      k_MAX_PEOPLE := ⟨_, mgv mMAX_PEOPLE, ⟨_, rfl⟩⟩,
      k_MAX_WALK := ⟨_, mgv mMAX_WALK, ⟨_, rfl⟩⟩,
      z_isinstance := mgn zisinstance,
      z_int := mgn zint,
      z_bool := mgn zbool,
      z_enumerate := mgn zenumerate,
      z_tuple := mgn ztuple,
      z_len := mgn zlen,
      z_str := mgn zstr,
      z_dict := mgn zdict,
      z_range := mgn zrange,
      z_max := mgn zmax,
      z_list := mgn zlist,
      z_RuntimeError := mgn zRuntimeError,
      z_repr := mgn zrepr,
      z_ValueError := mgn zValueError,
      z_min := mgn zmin }
  exact ok_law Z bud bud_ok law_right
end My
open PySem PySem.W PyProof.Rows
set_option maxRecDepth 100000 in
set_option maxHeartbeats 0 in
theorem PySem.Challenge.cw_crewstep_k35_crews_and_steps_on_rings_holds : PySem.Challenge.rw_crewstep_k35_crews_and_steps_on_rings.Holds := by
  w_on; o_law; k_head; (case hw => w_witness2)
  k_fill
  refine XK.walk_gT (l := PySem.Challenge.rw_crewstep_k35_crews_and_steps_on_rings) (x := "script") (k := 15) rfl (by decide) rfl ⟨rfl, by decide, by decide⟩ (fun w h Y => ⟨PySem.W.km_in_of Y, PySem.W.km_tabs_of Y⟩) ?F
  case F =>
    intro wd mg fa h KX G hmg
    refine' My.all_mk KX G hmg ?qaInvalidRoster ?qaInvalidPeople ?qaInvalidBadge ?qaInvalidWalk ?qaNotPossible ?qaCrewError ?qaStateError ?qaMissingError ?qeInvalidRoster ?qeInvalidPeople ?qeInvalidBadge ?qeInvalidWalk ?qeNotPossible ?qkCrewError ?qkStateError ?qkMissingError ?qkNotPossible ?qkInvalidBadge ?qsInvalidRoster_CrewError ?qsInvalidRoster_StateError ?qsInvalidRoster_MissingError ?qsInvalidPeople_CrewError ?qsInvalidPeople_StateError ?qsInvalidPeople_MissingError ?qsInvalidBadge_CrewError ?qsInvalidBadge_StateError ?qsInvalidBadge_MissingError ?qsInvalidWalk_CrewError ?qsInvalidWalk_StateError ?qsInvalidWalk_MissingError ?qsNotPossible_CrewError ?qsNotPossible_StateError ?qsNotPossible_MissingError ?qsInvalidRoster_NotPossible ?qsInvalidPeople_NotPossible ?qsInvalidBadge_NotPossible ?qsInvalidWalk_NotPossible ?qsNotPossible_NotPossible ?qsInvalidRoster_InvalidBadge ?qsInvalidPeople_InvalidBadge ?qsInvalidWalk_InvalidBadge ?qsNotPossible_InvalidBadge ?qsInvalidBadge_InvalidBadge ?qmMAX_BADGES ?qmMAX_SIZE ?qmMAX_PEOPLE ?qmMAX_WALK ?qbInvalidRoster_RuntimeError ?qbInvalidPeople_RuntimeError ?qbInvalidBadge_RuntimeError ?qbInvalidWalk_RuntimeError ?qbNotPossible_RuntimeError ?qbInvalidRoster_ValueError ?qbInvalidPeople_ValueError ?qbInvalidBadge_ValueError ?qbInvalidWalk_ValueError ?qbNotPossible_ValueError ?qdis_int ?qdcheck_roster ?qdbadges_of ?qdsize_of ?qd_is_entry ?qd_is_badge ?qd_is_size ?qdcheck_line ?qdcheck_ring ?qdturned ?qdcheck_walk ?qdsteps_to_try ?qdis_crew_at ?qdis_possible ?qdafter_step ?qd_is_step ?qd_is_place ?qd_is_side ?qdring_crews_at ?qdring_steps_of ?qdring_after_walk ?qd_after_ring_step ?qd_law_begin ?qd_law_mixed ?qd_law_next ?qd_law_roster ?qd_law_circle ?qd_law_crew ?qd_law_moved ?qd_law_raised ?qd_law_step_right ?qd_law_badge_right ?qd_law_right ?qdlaw ?ql_law_step_right ?qi_law_step_right ?ql_law_badge_right ?qi_law_badge_right ?qu_law_step_right__law_badge_right ?qzisinstance ?qzint ?qzbool ?qzenumerate ?qztuple ?qzlen ?qzstr ?qzdict ?qzrange ?qzmax ?qzlist ?qzRuntimeError ?qzrepr ?qzValueError ?qzmin
    (case qaInvalidRoster => k_is)
    (case qaInvalidPeople => k_is)
    (case qaInvalidBadge => k_is)
    (case qaInvalidWalk => k_is)
    (case qaNotPossible => k_is)
    (case qaCrewError => k_is)
    (case qaStateError => k_is)
    (case qaMissingError => k_is)
    (case qeInvalidRoster => (refine' EV.Eo.mkV ?xL ?sa ?exC ?tyC ?kC ?iC ?tI ?nf ?ga ?gg ?hd ?cl ?sg ?tk ?mo ?l ?c ?k; (case xL => k_is); (case sa => k_is); (case exC => k_is); (case tyC => k_is); (case kC => k_is); (case iC => k_is); (case tI => k_is); (case nf => k_is); (case ga => k_is); (case gg => k_is); (case hd => k_is); (case cl => k_is); (case sg => k_is); (case tk => k_is); (case mo => k_is); (case l => k_is); (case c => k_is); (case k => k_is)))
    (case qeInvalidPeople => (refine' EV.Eo.mkV ?xL ?sa ?exC ?tyC ?kC ?iC ?tI ?nf ?ga ?gg ?hd ?cl ?sg ?tk ?mo ?l ?c ?k; (case xL => k_is); (case sa => k_is); (case exC => k_is); (case tyC => k_is); (case kC => k_is); (case iC => k_is); (case tI => k_is); (case nf => k_is); (case ga => k_is); (case gg => k_is); (case hd => k_is); (case cl => k_is); (case sg => k_is); (case tk => k_is); (case mo => k_is); (case l => k_is); (case c => k_is); (case k => k_is)))
    (case qeInvalidBadge => (refine' EV.Eo.mkV ?xL ?sa ?exC ?tyC ?kC ?iC ?tI ?nf ?ga ?gg ?hd ?cl ?sg ?tk ?mo ?l ?c ?k; (case xL => k_is); (case sa => k_is); (case exC => k_is); (case tyC => k_is); (case kC => k_is); (case iC => k_is); (case tI => k_is); (case nf => k_is); (case ga => k_is); (case gg => k_is); (case hd => k_is); (case cl => k_is); (case sg => k_is); (case tk => k_is); (case mo => k_is); (case l => k_is); (case c => k_is); (case k => k_is)))
    (case qeInvalidWalk => (refine' EV.Eo.mkV ?xL ?sa ?exC ?tyC ?kC ?iC ?tI ?nf ?ga ?gg ?hd ?cl ?sg ?tk ?mo ?l ?c ?k; (case xL => k_is); (case sa => k_is); (case exC => k_is); (case tyC => k_is); (case kC => k_is); (case iC => k_is); (case tI => k_is); (case nf => k_is); (case ga => k_is); (case gg => k_is); (case hd => k_is); (case cl => k_is); (case sg => k_is); (case tk => k_is); (case mo => k_is); (case l => k_is); (case c => k_is); (case k => k_is)))
    (case qeNotPossible => (refine' EV.Eo.mkR ?xL ?sa ?exC ?tyC ?kC ?iC ?tI ?nf ?ga ?gg ?hd ?cl ?sg ?tk ?mo ?l ?c ?k; (case xL => k_is); (case sa => k_is); (case exC => k_is); (case tyC => k_is); (case kC => k_is); (case iC => k_is); (case tI => k_is); (case nf => k_is); (case ga => k_is); (case gg => k_is); (case hd => k_is); (case cl => k_is); (case sg => k_is); (case tk => k_is); (case mo => k_is); (case l => k_is); (case c => k_is); (case k => k_is)))
    (case qkCrewError => (refine' XK.Cl.mk ?ex ?is ?ty; (case ex => k_is); (case is => k_is); (case ty => k_is)))
    (case qkStateError => (refine' XK.Cl.mk ?ex ?is ?ty; (case ex => k_is); (case is => k_is); (case ty => k_is)))
    (case qkMissingError => (refine' XK.Cl.mk ?ex ?is ?ty; (case ex => k_is); (case is => k_is); (case ty => k_is)))
    (case qkNotPossible => (refine' XK.Cl.mk ?ex ?is ?ty; (case ex => k_is); (case is => k_is); (case ty => k_is)))
    (case qkInvalidBadge => (refine' XK.Cl.mk ?ex ?is ?ty; (case ex => k_is); (case is => k_is); (case ty => k_is)))
    (case qsInvalidRoster_CrewError => k_is)
    (case qsInvalidRoster_StateError => k_is)
    (case qsInvalidRoster_MissingError => k_is)
    (case qsInvalidPeople_CrewError => k_is)
    (case qsInvalidPeople_StateError => k_is)
    (case qsInvalidPeople_MissingError => k_is)
    (case qsInvalidBadge_CrewError => k_is)
    (case qsInvalidBadge_StateError => k_is)
    (case qsInvalidBadge_MissingError => k_is)
    (case qsInvalidWalk_CrewError => k_is)
    (case qsInvalidWalk_StateError => k_is)
    (case qsInvalidWalk_MissingError => k_is)
    (case qsNotPossible_CrewError => k_is)
    (case qsNotPossible_StateError => k_is)
    (case qsNotPossible_MissingError => k_is)
    (case qsInvalidRoster_NotPossible => k_is)
    (case qsInvalidPeople_NotPossible => k_is)
    (case qsInvalidBadge_NotPossible => k_is)
    (case qsInvalidWalk_NotPossible => k_is)
    (case qsNotPossible_NotPossible => k_is)
    (case qsInvalidRoster_InvalidBadge => k_is)
    (case qsInvalidPeople_InvalidBadge => k_is)
    (case qsInvalidWalk_InvalidBadge => k_is)
    (case qsNotPossible_InvalidBadge => k_is)
    (case qsInvalidBadge_InvalidBadge => k_is)
    (case qmMAX_BADGES => k_is)
    (case qmMAX_SIZE => k_is)
    (case qmMAX_PEOPLE => k_is)
    (case qmMAX_WALK => k_is)
    (case qbInvalidRoster_RuntimeError => kernel_rfl)
    (case qbInvalidPeople_RuntimeError => kernel_rfl)
    (case qbInvalidBadge_RuntimeError => kernel_rfl)
    (case qbInvalidWalk_RuntimeError => kernel_rfl)
    (case qbNotPossible_RuntimeError => kernel_rfl)
    (case qbInvalidRoster_ValueError => kernel_rfl)
    (case qbInvalidPeople_ValueError => kernel_rfl)
    (case qbInvalidBadge_ValueError => kernel_rfl)
    (case qbInvalidWalk_ValueError => kernel_rfl)
    (case qbNotPossible_ValueError => kernel_rfl)
    (case qdis_int => (refine' XK.Dn.mk ?a ?l ?c ?k; (case a => k_is); (case l => k_is); (case c => k_is); (case k => k_is)))
    (case qdcheck_roster => (refine' XK.Dn.mk ?a ?l ?c ?k; (case a => k_is); (case l => k_is); (case c => k_is); (case k => k_is)))
    (case qdbadges_of => (refine' XK.Dn.mk ?a ?l ?c ?k; (case a => k_is); (case l => k_is); (case c => k_is); (case k => k_is)))
    (case qdsize_of => (refine' XK.Dn.mk ?a ?l ?c ?k; (case a => k_is); (case l => k_is); (case c => k_is); (case k => k_is)))
    (case qd_is_entry => (refine' XK.Dn.mk ?a ?l ?c ?k; (case a => k_is); (case l => k_is); (case c => k_is); (case k => k_is)))
    (case qd_is_badge => (refine' XK.Dn.mk ?a ?l ?c ?k; (case a => k_is); (case l => k_is); (case c => k_is); (case k => k_is)))
    (case qd_is_size => (refine' XK.Dn.mk ?a ?l ?c ?k; (case a => k_is); (case l => k_is); (case c => k_is); (case k => k_is)))
    (case qdcheck_line => (refine' XK.Dn.mk ?a ?l ?c ?k; (case a => k_is); (case l => k_is); (case c => k_is); (case k => k_is)))
    (case qdcheck_ring => (refine' XK.Dn.mk ?a ?l ?c ?k; (case a => k_is); (case l => k_is); (case c => k_is); (case k => k_is)))
    (case qdturned => (refine' XK.Dn.mk ?a ?l ?c ?k; (case a => k_is); (case l => k_is); (case c => k_is); (case k => k_is)))
    (case qdcheck_walk => (refine' XK.Dn.mk ?a ?l ?c ?k; (case a => k_is); (case l => k_is); (case c => k_is); (case k => k_is)))
    (case qdsteps_to_try => (refine' XK.Dn.mk ?a ?l ?c ?k; (case a => k_is); (case l => k_is); (case c => k_is); (case k => k_is)))
    (case qdis_crew_at => (refine' XK.Dn.mk ?a ?l ?c ?k; (case a => k_is); (case l => k_is); (case c => k_is); (case k => k_is)))
    (case qdis_possible => (refine' XK.Dn.mk ?a ?l ?c ?k; (case a => k_is); (case l => k_is); (case c => k_is); (case k => k_is)))
    (case qdafter_step => (refine' XK.Dn.mk ?a ?l ?c ?k; (case a => k_is); (case l => k_is); (case c => k_is); (case k => k_is)))
    (case qd_is_step => (refine' XK.Dn.mk ?a ?l ?c ?k; (case a => k_is); (case l => k_is); (case c => k_is); (case k => k_is)))
    (case qd_is_place => (refine' XK.Dn.mk ?a ?l ?c ?k; (case a => k_is); (case l => k_is); (case c => k_is); (case k => k_is)))
    (case qd_is_side => (refine' XK.Dn.mk ?a ?l ?c ?k; (case a => k_is); (case l => k_is); (case c => k_is); (case k => k_is)))
    (case qdring_crews_at => (refine' XK.Dn.mk ?a ?l ?c ?k; (case a => k_is); (case l => k_is); (case c => k_is); (case k => k_is)))
    (case qdring_steps_of => (refine' EV.DnK.mk1 ?a ?l ?c ?k ?y ?r; (case a => k_is); (case l => k_is); (case c => k_is); (case k => k_is); (case y => k_is); (case r => exact rfl)))
    (case qdring_after_walk => (refine' XK.Dn.mk ?a ?l ?c ?k; (case a => k_is); (case l => k_is); (case c => k_is); (case k => k_is)))
    (case qd_after_ring_step => (refine' XK.Dn.mk ?a ?l ?c ?k; (case a => k_is); (case l => k_is); (case c => k_is); (case k => k_is)))
    (case qd_law_begin => (refine' XK.Dn.mk ?a ?l ?c ?k; (case a => k_is); (case l => k_is); (case c => k_is); (case k => k_is)))
    (case qd_law_mixed => (refine' XK.Dn.mk ?a ?l ?c ?k; (case a => k_is); (case l => k_is); (case c => k_is); (case k => k_is)))
    (case qd_law_next => (refine' XK.Dn.mk ?a ?l ?c ?k; (case a => k_is); (case l => k_is); (case c => k_is); (case k => k_is)))
    (case qd_law_roster => (refine' XK.Dn.mk ?a ?l ?c ?k; (case a => k_is); (case l => k_is); (case c => k_is); (case k => k_is)))
    (case qd_law_circle => (refine' XK.Dn.mk ?a ?l ?c ?k; (case a => k_is); (case l => k_is); (case c => k_is); (case k => k_is)))
    (case qd_law_crew => (refine' XK.Dn.mk ?a ?l ?c ?k; (case a => k_is); (case l => k_is); (case c => k_is); (case k => k_is)))
    (case qd_law_moved => (refine' XK.Dn.mk ?a ?l ?c ?k; (case a => k_is); (case l => k_is); (case c => k_is); (case k => k_is)))
    (case qd_law_raised => (refine' XK.Dn.mk ?a ?l ?c ?k; (case a => k_is); (case l => k_is); (case c => k_is); (case k => k_is)))
    (case qd_law_step_right => (refine' XK.Mk.mk ?a ?l ?c ?k ?o ?v ?h; (case a => k_is); (case l => k_is); (case c => k_is); (case k => k_is); (case o => k_is); (case v => exact rfl); (case h => kernel_rfl)))
    (case qd_law_badge_right => (refine' XK.Mk.mk ?a ?l ?c ?k ?o ?v ?h; (case a => k_is); (case l => k_is); (case c => k_is); (case k => k_is); (case o => k_is); (case v => exact rfl); (case h => kernel_rfl)))
    (case qd_law_right => (refine' XK.Dn.mk ?a ?l ?c ?k; (case a => k_is); (case l => k_is); (case c => k_is); (case k => k_is)))
    (case qdlaw => (refine' XK.Dn.mk ?a ?l ?c ?k; (case a => k_is); (case l => k_is); (case c => k_is); (case k => k_is)))
    (case ql_law_step_right => kernel_rfl)
    (case qi_law_step_right => decide)
    (case ql_law_badge_right => kernel_rfl)
    (case qi_law_badge_right => decide)
    (case qu_law_step_right__law_badge_right => decide)
    (case qzisinstance => k_is)
    (case qzint => k_is)
    (case qzbool => k_is)
    (case qzenumerate => k_is)
    (case qztuple => k_is)
    (case qzlen => k_is)
    (case qzstr => k_is)
    (case qzdict => k_is)
    (case qzrange => k_is)
    (case qzmax => k_is)
    (case qzlist => k_is)
    (case qzRuntimeError => k_is)
    (case qzrepr => k_is)
    (case qzValueError => k_is)
    (case qzmin => k_is)
