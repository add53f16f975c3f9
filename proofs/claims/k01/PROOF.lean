import PyProof.Rows.All
import Wide.All
import OpenK.AllK
import Wide.FinOn
import HandS.ForMost
import HandS.ForExc
import HandS.ExcInit
import HandS.ExcField
import HandS.ExcIs
import HandS.IsInst
import HandS.Evl
import HandS.Conv
import HandS.WideMore
import HandS.TupAny
import PyProof.ReprNest
import PyProof.ReprDict
import KE.KExcIs
import KE.GoesEnum
import HandS.Walk
import KE.KTupSum
import PyProof.ListStr
import HandS.TryOnly
import KE.KRevSl
import HandS.Style
import PyProof.EqKinds
import PyProof.FactsAll.subtypes_3
import PyProof.FactsAll.dict_1
import PyProof.FactsAll.str_1
import PySem.Challenge.RW_crewstep_k01_rosters

set_option Elab.async false
set_option linter.all false
set_option maxRecDepth 100000
set_option maxHeartbeats 4000000
/-! Calls where no repr is under way: a def's promise is asked only of arounds whose guards are empty. -/
namespace XK
open PySem PySem.Spec PyProof.Rows L2

structure Calm (k : Nat) (A : Around) : Prop where
  room : Room k A
  gs : A.guards = some []
theorem Calm.mono {j k : Nat} {A : Around} (c : Calm k A) (h : j ≤ k) : Calm j A := ⟨c.room.mono h, c.gs⟩
theorem Calm.deeper {k : Nat} {A : Around} (c : Calm (k + 1) A) (env : Env) : Calm k (A.deeper env) := ⟨c.room.deeper env, c.gs⟩

structure FnG (P : Program) (w : World) (K : PySem.W.Frag) (mg : Str → Option Value) (base : Heap) (k : Nat) (f : Addr) (fd : FuncData) (ps : List Str) (sp : Sp) : Prop where
  len : ∀ vs H Q E, sp vs H Q E → vs.length = ps.length
  go : ∀ (A : Around) (fr : List Env) (s : Shared) (H : Hp) (ar : Args) (us : List Value) (vs : List V) (Q : VK) (E : XK),
    Calm k A → Env0 P w K mg base A fr s H → BindsTo s fd ar (ps.zip us) → Vals vs us → sp vs H Q E → codeAny (model P w) A (.call (.ref f) ar) (CR (L2.CX P w) fr P w H s Q E) s
section
variable {P : Program} {w : World} {K : PySem.W.Frag} {mg : Str → Option Value} {base : Heap} {j k : Nat} {f : Addr} {fd : FuncData} {ps : List Str} {sp sp' : Sp}
theorem FnG.of (F : FnOk P w K mg base (L2.CX P w) k f fd ps sp) : FnG P w K mg base k f fd ps sp :=
  ⟨F.len, fun A fr s H ar us vs Q E c e b r h => F.run A fr s H ar us vs Q E c.room e b r h⟩
theorem FnG.mono (F : FnG P w K mg base j f fd ps sp) (h : j ≤ k) : FnG P w K mg base k f fd ps sp :=
  ⟨F.len, fun A fr s H ar us vs Q E c => F.go A fr s H ar us vs Q E (c.mono h)⟩
theorem FnG.imp (F : FnG P w K mg base k f fd ps sp) (h : ∀ vs H Q E, sp' vs H Q E → sp vs H Q E) : FnG P w K mg base k f fd ps sp' :=
  ⟨fun vs H Q E q => F.len vs H Q E (h _ _ _ _ q), fun A fr s H ar us vs Q E c e b r q => F.go A fr s H ar us vs Q E c e b r (h _ _ _ _ q)⟩

/-- a def by its body -/
theorem def_ok {x qual : Str} {st : Stmt} {N : List Str} (F : Fun K x qual st f fd) (S : FnScope N ps (defScope st)) (len : ∀ vs H Q E, sp vs H Q E → vs.length = ps.length)
    (body : ∀ (cdv : Value) (A : Around) (fr : List Env) (s : Shared) (H : Hp) (vs : List V) (Q : VK) (E : XK), Calm k (A.deeper (envOfC qual (defScope st) s.heap.objs.size f cdv)) → sp vs H Q E →
      ∃ t, PSs (cxOf (L2.CX P w) P w K mg base N qual (defScope st) f cdv A fr s H E) (defBody st) t ∧ t { nx := fun _ H' => Q .non H', rt := Q } (start N vs) H) : FnG P w K mg base (k + 1) f fd ps sp := by
  obtain ⟨oc, od, kV, doc, pm, an, cdv, ct, osl, rfl, lk, hcd⟩ := F.ex
  refine ⟨len, fun A fr s H ar us vs Q E c e0 hb rv hsp => ?_⟩
  have hin : K.In s.heap := e0.mod.kin.keeps fun b o e => (e0.bs b o e).1
  have nolim : s.heap.NoLimit := e0.mod.nolimit.keeps fun b o e => (e0.bs b o e).1
  have kinds : ∀ y ∈ ps.zip us, (defScope st).names.lookup y.1 = some .local ∨ ((defScope st).names.lookup y.1 = some .cell ∧ ((cellsFrom (s.heap.objs.size + 1) (defScope st).names []).lookup y.1).isSome = true) := by
    rintro ⟨n, v⟩ hy
    have hp := S.par n (List.of_mem_zip hy).1
    rcases hp with hp | hp
    · exact Or.inl hp
    · exact Or.inr ⟨hp, PySem.W.cellsFrom_some _ _ _ (Or.inl hp)⟩
  refine codeAny_call_function c.room.depth (hin _ _ lk) rfl S.co S.gen rfl (PySem.W.codeRec_of hin hcd) (hb _ _ _ _ ?_)
  refine wpAny_newFunctionEnv_cells S.kind kinds fun env he s1 x => ?_
  subst he
  refine ⟨nolim.keeps x.toInCall.keep, codeAny_func ?_⟩
  obtain ⟨t, ht, hq⟩ := body cdv A fr s H vs Q E (c.deeper _) hsp
  have J := inv_start (CX := L2.CX P w) (f := f) (cd := cdv) (qual := qual) (E := E) S c.room.hd e0 (len _ _ _ _ hsp) rv x
  refine wpAny_mono (ht.run [] s1 (start N vs) H _ J hq) (fun fl s' hs => ?_) fun _ _ z => z
  cases fl with
  | ret u =>
    obtain ⟨v, σ', H', J', rv', q⟩ := hs
    exact ⟨v, H', J'.os, J'.bare, J'.base, J'.hok, rv', q⟩
  | next =>
    obtain ⟨σ', H', J', q⟩ := hs
    exact ⟨V.non, H', J'.os, J'.bare, J'.base, J'.hok, rfl, q⟩
  | brk =>
    obtain ⟨_, _, _, q⟩ := hs
    exact q.elim
  | cont =>
    obtain ⟨_, _, _, q⟩ := hs
    exact q.elim
/-- how keywords bind to a def's parameters -/
theorem kb_of {x qual : Str} {st : Stmt} {ks : List Str} {g : List Value → List Value → List Value} {gV : List V → List V → List V} (F : Fun K x qual st f fd)
    (h : ∀ (kV doc pm : Value) (an : Option Addr) (cdv ct : Value) (us ws : List Value), (g us ws).length = ps.length → bindArgs (PySem.W.fnOf x qual (defArgs st) (defBody st) (defScope st) .none kV doc pm an cdv ct) ⟨us, ks.zip ws⟩ = pure (ps.zip (g us ws)))
    (r : ∀ {vs : List V} {us : List Value} {zs : List V} {ws : List Value}, Vals vs us → Vals zs ws → Vals (gV vs zs) (g us ws)) : KBinds K fd ps ks g gV := by
  obtain ⟨oc, od, kV, doc, pm, an, cdv, ct, osl, rfl, lk, hcd⟩ := F.ex
  exact ⟨fun s us ws _ hl => .of_eq (h kV doc pm an cdv ct us ws hl), r⟩
end

/-! ### calls -/
section
variable {X : Cx} {k : Nat} {f : Addr} {fd : FuncData} {ps ks : List Str} {sp : Sp} {E : L2.St → XK} {x : Str} {p pos : Pos} {e : Expr} {es : List Expr} {kws : List Keyword} {t tk : TA}
variable {g : List Value → List Value → List Value} {gV : List V → List V → List V}
theorem go_fn {pins : List (Addr × Obj)} {σ : L2.St} {H : Hp} {s : Shared} {Q : VK} {ar : Args} {us : List Value} {vs : List V} (F : FnG X.prog X.w X.K X.mg X.base k f fd ps sp) (c : Calm k X.A) (hx : PassesAt (L2.CX X.prog X.w) X σ (E σ))
    (I : Inv X pins σ H s) (b : BindsTo s fd ar (ps.zip us)) (r : Vals vs us) (h : sp vs H Q (E σ)) : codeAny (model X.prog X.w) X.A (.call (.ref f) ar) (callEnd (EP X pins σ Q) X.xe) s := by
  refine codeAny_mono (F.go X.A X.stack s H ar us vs Q (E σ) c I.env0 b r h) fun r s' hq => ?_
  cases r with
  | error e => exact hx pins H s e s' I hq
  | ok fl =>
    cases fl with
    | ret u => exact I.after hq
    | next => exact hq.elim
    | brk => exact hq.elim
    | cont => exact hq.elim
/-- f(e, ..) -/
theorem pe_g (F : FnG X.prog X.w X.K X.mg X.base k f fd ps sp) (c : Calm k X.A) (hg : Gl X x) (hm : X.mg x = some (.ref f)) (hk : PySem.W.keepIn X.K (.ref f) = true) (hb : Binds X.K fd ps []) (hx : ∀ σ, PassesAt (L2.CX X.prog X.w) X σ (E σ))
    (ha : PA X (e :: es) t) (hdb : (x == ("__debug__" : Str)) = false := by decide) (he : starEach (e :: es) X.env = (false, eval e X.env) :: starEach es X.env := by rfl) (hpl : (backTo pos (starEach es X.env)).any (·.1) = false := by rfl) :
    PE X (.Call (.Name x p) (e :: es) [] pos) (tCallS sp E t) := by
  refine ⟨fun pins s σ H Q I h => wpAny_Call_Name_kw (ld_glob I hg hm ?_ hdb)⟩
  refine PySem.W.callWith_K (h₀ := X.base) I.ok.mod.kin hk (thn (ha.run pos pins s σ H _ I h) fun us s1 ⟨vs, H1, I1, r, q⟩ => ⟨I1.kIn, ?_⟩) he hpl
  have hl : us.length = ps.length := by rw [← r.length]; exact F.len _ _ _ _ q
  have b := hb s1 us I1.kIn (by rw [List.append_nil]; exact hl)
  rw [List.append_nil] at b
  exact wpAny_call (go_fn F c (hx σ) I1 b r q)
/-- f() -/
theorem pe_g0 (F : FnG X.prog X.w X.K X.mg X.base k f fd ps sp) (c : Calm k X.A) (hg : Gl X x) (hm : X.mg x = some (.ref f)) (hk : PySem.W.keepIn X.K (.ref f) = true) (hb : Binds X.K fd ps []) (hx : ∀ σ, PassesAt (L2.CX X.prog X.w) X σ (E σ))
    (hdb : (x == ("__debug__" : Str)) = false := by decide) : PE X (.Call (.Name x p) [] [] pos) (tCallS sp E tNil) := by
  refine ⟨fun pins s σ H Q I h => wpAny_Call_Name_kw (ld_glob I hg hm (PySem.W.callWith_K0 I.kIn hk ?_) hdb)⟩
  have hl : ([] : List Value).length = ps.length := F.len _ _ _ _ h
  have b := hb s [] I.kIn hl
  exact wpAny_call (go_fn F c (hx σ) I b .nil h)
/-- f(e, .., k = v, ..) -/
def tCallGK (sp : Sp) (gV : List V → List V → List V) (E : L2.St → XK) (t tk : TA) : TE := fun σ H Q => t σ H fun vs H1 => tk σ H1 fun zs H2 => sp (gV vs zs) H2 Q (E σ)
theorem pe_gk (F : FnG X.prog X.w X.K X.mg X.base k f fd ps sp) (c : Calm k X.A) (hg : Gl X x) (hm : X.mg x = some (.ref f)) (hk : PySem.W.keepIn X.K (.ref f) = true) (hb : KBinds X.K fd ps ks g gV) (hx : ∀ σ, PassesAt (L2.CX X.prog X.w) X σ (E σ))
    (ha : PA X (e :: es) t) (hkw : PK X kws tk) (hall : (backToKw pos (keywordEach kws X.env)).all (·.1.isSome) = true := by rfl) (hks : (backToKw pos (keywordEach kws X.env)).filterMap (·.1) = ks := by rfl)
    (hdb : (x == ("__debug__" : Str)) = false := by decide) (he : starEach (e :: es) X.env = (false, eval e X.env) :: starEach es X.env := by rfl)
    (hpl : ((backTo pos (starEach (e :: es) X.env)).any (·.1) || (backToKw pos (keywordEach kws X.env)).any (·.1.isNone)) = false := by rfl) :
    PE X (.Call (.Name x p) (e :: es) kws pos) (tCallGK sp gV E t tk) := by
  refine ⟨fun pins s σ H Q I h => wpAny_Call_Name_kw (ld_glob I hg hm ?_ hdb)⟩
  refine PySem.W.callWith_KW (h₀ := X.base) I.ok.mod.kin hk hall (thn (ha.run pos pins s σ H _ I h) fun us s1 ⟨vs, H1, I1, r, q⟩ => ?_) hpl he
  refine thn (hkw.run pos pins s1 σ H1 _ I1 q) fun ws s2 ⟨zs, H2, I2, rz, q2⟩ => ⟨I2.kIn, ?_⟩
  rw [hks]
  have r2 := hb.rel r rz
  have hl : (g us ws).length = ps.length := by rw [← r2.length]; exact F.len _ _ _ _ q2
  exact wpAny_call (go_fn F c (hx σ) I2 (hb.to s2 us ws I2.kIn hl) r2 q2)
/-- f(k = v, ..) -/
theorem pe_gk0 (F : FnG X.prog X.w X.K X.mg X.base k f fd ps sp) (c : Calm k X.A) (hg : Gl X x) (hm : X.mg x = some (.ref f)) (hk : PySem.W.keepIn X.K (.ref f) = true) (hb : KBinds X.K fd ps ks g gV) (hx : ∀ σ, PassesAt (L2.CX X.prog X.w) X σ (E σ))
    (hkw : PK X kws tk) (hall : (backToKw pos (keywordEach kws X.env)).all (·.1.isSome) = true := by rfl) (hks : (backToKw pos (keywordEach kws X.env)).filterMap (·.1) = ks := by rfl)
    (hdb : (x == ("__debug__" : Str)) = false := by decide) (hpl : ((backTo pos (starEach [] X.env)).any (·.1) || (backToKw pos (keywordEach kws X.env)).any (·.1.isNone)) = false := by rfl) :
    PE X (.Call (.Name x p) [] kws pos) (tCallGK sp gV E tNil tk) := by
  refine ⟨fun pins s σ H Q I h => wpAny_Call_Name_kw (ld_glob I hg hm ?_ hdb)⟩
  refine PySem.W.callWith_KW0 (h₀ := X.base) I.ok.mod.kin hk hall (thn (hkw.run pos pins s σ H _ I h) fun ws s2 ⟨zs, H2, I2, rz, q2⟩ => ⟨I2.kIn, ?_⟩) hpl
  rw [hks]
  have r2 := hb.rel (vs := []) (us := []) .nil rz
  have hl : (g [] ws).length = ps.length := by rw [← r2.length]; exact F.len _ _ _ _ q2
  exact wpAny_call (go_fn F c (hx σ) I2 (hb.to s2 [] ws I2.kIn hl) r2 q2)
end
/-- nothing leaves a callee that promises so -/
theorem quiet {X : Cx} (σ : L2.St) : PassesAt (L2.CX X.prog X.w) X σ E0 := fun _ _ _ _ _ _ ⟨_, _, _, _, _, _, _, _, _, _, _, _, z⟩ => z.elim
abbrev E00 : L2.St → XK := fun _ => E0
theorem quiets {X : Cx} : ∀ σ, PassesAt (L2.CX X.prog X.w) X σ (E00 σ) := fun σ => quiet σ
end XK

/-! repr of data: None, bools, ints, texts, tuples, lists, empty dicts, at any depth. -/
namespace XK
open PySem PySem.Spec PyProof.Rows L2

mutual
inductive Dz (K : PySem.W.Frag) (H : Hp) : V → PyData → Prop
  | non : Dz K H .non .none
  | bl (b : Bool) : Dz K H (.bl b) (.bool b)
  | int (i : Int) : Dz K H (.int i) (.int i)
  | str (x : Str) : Dz K H (.str x) (.str x)
  | lst {a : Addr} {xs : List V} {ds : List PyData} : SqL K H a xs → DzA K H xs ds → Dz K H (.ref a) (.list ds)
  | tup {a : Addr} {xs : List V} {ds : List PyData} : SqT K H a xs → DzA K H xs ds → Dz K H (.ref a) (.tuple ds)
  | dic {a : Addr} : H a = some (.dK []) → Dz K H (.ref a) (.dict [])
inductive DzA (K : PySem.W.Frag) (H : Hp) : List V → List PyData → Prop
  | nil : DzA K H [] []
  | cons {v : V} {vs : List V} {d : PyData} {ds : List PyData} : Dz K H v d → DzA K H vs ds → DzA K H (v :: vs) (d :: ds)
end
mutual
theorem Dp.z {K : PySem.W.Frag} {H : Hp} : ∀ {v : V} {d : PyData}, Dp K H v d → Dz K H v d
  | _, _, .non => .non
  | _, _, .bl b => .bl b
  | _, _, .int i => .int i
  | _, _, .str x => .str x
  | _, _, .lst h a => .lst h (DpAll.z a)
  | _, _, .tup h a => .tup h (DpAll.z a)
theorem DpAll.z {K : PySem.W.Frag} {H : Hp} : ∀ {vs : List V} {ds : List PyData}, DpAll K H vs ds → DzA K H vs ds
  | _, _, .nil => .nil
  | _, _, .cons a b => .cons (Dp.z a) (DpAll.z b)
end

section
variable {X : Cx} {pins : List (Addr × Obj)} {σ : L2.St} {H : Hp} {s : Shared}
theorem emptyDict (I : Inv X pins σ H s) {a : Addr} (h : H a = some (.dK [])) : ∃ (o : Obj) (es : Array DictEntry) (n : Nat), s.heap.get? a = some o ∧ o.cls = .type "dict" ∧ o.data = .dict es n ∧ es.toList = [] ∧ (a == sysModules) = false := by
  obtain ⟨_, hs, vs, kv, o, es, ep, ho, hx, hd, _, hp, _⟩ := (show ObjOk X.prog X.w H s.heap a (.dK []) from I.hok a _ h)
  cases kv
  refine ⟨o, es, ep, ho, hx.1, hd, ?_, hs⟩
  cases e : es.toList with
  | nil => rfl
  | cons x l =>
    rw [e] at hp
    cases hp
mutual
theorem Dz.reads (I : Inv X pins σ H s) : ∀ (d : PyData) (v : V) (u : Value), Dz X.K H v d → RelV v u → ∃ as, Reads s.heap u d as
  | .none, _, _, h, r => by
    cases h
    cases r
    exact ⟨_, Reads.none⟩
  | .bool b, _, _, h, r => by
    cases h
    cases r
    exact ⟨_, Reads.bool b⟩
  | .int i, _, _, h, r => by
    cases h
    obtain ⟨t, rfl⟩ := r
    exact ⟨_, Reads.int i t⟩
  | .str x, _, _, h, r => by
    cases h
    obtain ⟨t, rfl⟩ := r
    exact ⟨_, Reads.str x t⟩
  | .list ds, _, _, h, r => by
    cases h with
    | lst hs ha =>
      cases r
      obtain ⟨its, rv, ⟨o, n, ho, hc, _, hd⟩, _⟩ := I.list hs
      obtain ⟨as, q⟩ := Dz.readsAll I ds _ its ha rv
      exact ⟨_, Reads.list ho hc hd q⟩
  | .tuple ds, _, _, h, r => by
    cases h with
    | tup hs ha =>
      cases r
      obtain ⟨its, rv, ⟨o, ho, hc, n, hd⟩, _⟩ := I.tuple hs
      obtain ⟨as, q⟩ := Dz.readsAll I ds _ its ha rv
      exact ⟨_, Reads.tuple ho hc hd q⟩
  | .dict kvs, _, _, h, r => by
    cases h with
    | dic hs =>
      cases r
      obtain ⟨o, es, n, ho, hc, hd, he, _⟩ := emptyDict I hs
      exact ⟨_, Reads.dict (as := []) (bs := []) ho hc hd (by rw [he]; exact .nil) (by rw [he]; exact .nil)⟩
theorem Dz.readsAll (I : Inv X pins σ H s) : ∀ (ds : List PyData) (vs : List V) (us : List Value), DzA X.K H vs ds → Vals vs us → ∃ as, ReadsAll s.heap us ds as
  | [], _, _, h, r => by
    cases h
    cases r
    exact ⟨_, ReadsAll.nil⟩
  | d :: ds, _, _, h, r => by
    cases h with
    | cons h1 h2 =>
      cases r with
      | cons r1 r2 =>
        obtain ⟨as, q1⟩ := Dz.reads I d _ _ h1 r1
        obtain ⟨bs, q2⟩ := Dz.readsAll I ds _ _ h2 r2
        exact ⟨_, ReadsAll.cons q1 q2⟩
end
mutual
theorem Dz.told (I : Inv X pins σ H s) : ∀ (d : PyData) (v : V) (u : Value), Dz X.K H v d → RelV v u → d.showable = true → d.shown.length ≤ sizeLine → ∃ bs, ReadAtMost s.heap d.depth bs ∧ ReprK X.prog X.w bs s.heap d.depth u d.shown
  | .none, _, _, h, r, _, _ => by
    cases h
    cases r
    exact ⟨[], (fun _ z => nomatch z), by simp only [PyData.shown]; exact .of_is ReprIs.none _ _ _⟩
  | .bool b, _, _, h, r, _, _ => by
    cases h
    cases r
    exact ⟨[], (fun _ z => nomatch z), by simp only [PyData.shown]; exact .of_is (ReprIs.bool b) _ _ _⟩
  | .int i, _, _, h, r, hs, _ => by
    cases h
    obtain ⟨t, rfl⟩ := r
    exact ⟨[], (fun _ z => nomatch z), by simp only [PyData.shown]; exact .of_is (ReprIs.int t (by simpa [PyData.showable] using hs)) _ _ _⟩
  | .str x, _, _, h, r, _, hz => by
    cases h
    obtain ⟨t, rfl⟩ := r
    exact ⟨[], (fun _ z => nomatch z), by simp only [PyData.shown]; exact .of_is (ReprIs.str x t (by simpa only [PyData.shown] using hz)) _ _ _⟩
  | .list ds, v, u, h, r, hs, hz => by
    obtain ⟨_, rd⟩ := Dz.reads I _ _ _ h r
    cases h with
    | @lst a xs _ hq ha =>
      cases r
      obtain ⟨its, rv, ⟨o, n, ho, hc, _, hd⟩, _⟩ := I.list hq
      have hz1 : (listText (PyData.shownAll ds)).length ≤ sizeLine := by simpa only [PyData.shown] using hz
      obtain ⟨bs, hb, hk⟩ := Dz.toldAll I ds _ its ha rv (by simpa [PyData.showable] using hs) (fun t ht => Nat.le_trans (listText_mem_le ht) hz1)
      have hna : a ∉ bs := not_mem_of_deeper rd (by simp only [PyData.depth]; omega) hb
      refine ⟨a :: bs, ReadAtMost.cons rd (by simp only [PyData.depth]; omega) hb, ?_⟩
      simp only [PyData.depth, PyData.shown]
      cases its with
      | nil =>
        cases rv
        cases ha
        simp only [PyData.shownAll]
        rw [listText_nil]
        exact ReprK.listEmpty ho hc hd
      | cons y l => exact ReprK.list ho hc hd hna (by simpa using hk.length_eq) (fun i y e => hk.item i y (by simpa using e))
  | .tuple ds, v, u, h, r, hs, hz => by
    obtain ⟨_, rd⟩ := Dz.reads I _ _ _ h r
    cases h with
    | @tup a xs _ hq ha =>
      cases r
      obtain ⟨its, rv, ⟨o, ho, hc, n, hd⟩, _⟩ := I.tuple hq
      have hz1 : (tupleText (PyData.shownAll ds)).length ≤ sizeLine := by simpa only [PyData.shown] using hz
      obtain ⟨bs, hb, hk⟩ := Dz.toldAll I ds _ its ha rv (by simpa [PyData.showable] using hs) (fun t ht => Nat.le_trans (tupleText_mem_le ht) hz1)
      have hna : a ∉ bs := not_mem_of_deeper rd (by simp only [PyData.depth]; omega) hb
      refine ⟨a :: bs, ReadAtMost.cons rd (by simp only [PyData.depth]; omega) hb, ?_⟩
      simp only [PyData.depth, PyData.shown]
      exact ReprK.tuple ho hc hd hna (by simpa using hk)
  | .dict kvs, v, u, h, r, hs, hz => by
    obtain ⟨_, rd⟩ := Dz.reads I _ _ _ h r
    cases h with
    | @dic a hq =>
      cases r
      obtain ⟨o, es, n, ho, hc, hd, he, hsys⟩ := emptyDict I hq
      refine ⟨[a], fun b hb => ?_, ?_⟩
      · obtain rfl := List.mem_singleton.mp hb
        exact ⟨_, _, rd, Nat.le_refl _⟩
      · have k : ReprEntriesK X.prog X.w [] s.heap 0 es.toList [] := by rw [he]; exact .nil
        exact ReprK.dict (as := []) ho hc hd hsys (by simp) k
theorem Dz.toldAll (I : Inv X pins σ H s) : ∀ (ds : List PyData) (vs : List V) (us : List Value), DzA X.K H vs ds → Vals vs us → PyData.showableAll ds = true → (∀ t ∈ PyData.shownAll ds, t.length ≤ sizeLine) →
    ∃ bs, ReadAtMost s.heap (PyData.depthAll ds) bs ∧ ReprAllK X.prog X.w bs s.heap (PyData.depthAll ds) us (PyData.shownAll ds)
  | [], _, _, h, r, _, _ => by
    cases h
    cases r
    exact ⟨[], (fun _ z => nomatch z), by simp only [PyData.shownAll]; exact .nil⟩
  | d :: ds, _, _, h, r, hs, hz => by
    cases h with
    | cons h1 h2 =>
      cases r with
      | cons r1 r2 =>
        have hs2 : d.showable = true ∧ PyData.showableAll ds = true := by simpa [PyData.showableAll] using hs
        obtain ⟨b1, hb1, k1⟩ := Dz.told I d _ _ h1 r1 hs2.1 (hz _ (by simp only [PyData.shownAll]; exact List.mem_cons_self ..))
        obtain ⟨b2, hb2, k2⟩ := Dz.toldAll I ds _ _ h2 r2 hs2.2 (fun t ht => hz t (by simp only [PyData.shownAll]; exact List.mem_cons_of_mem _ ht))
        refine ⟨b1 ++ b2, ?_, ?_⟩
        · simp only [PyData.depthAll]
          exact (hb1.mono (Nat.le_max_left _ _)).append (hb2.mono (Nat.le_max_right _ _))
        · simp only [PyData.depthAll, PyData.shownAll]
          exact .cons ((k1.more fun b hb => List.mem_append_left _ hb).level_le (Nat.le_max_left _ _)) (k2.more_le (fun b hb => List.mem_append_right _ hb) (Nat.le_max_right _ _))
end
/-- what stands at an address, shown by its type's own repr -/
theorem Dz.shows (I : Inv X pins σ H s) {a : Addr} {d : PyData} (h : Dz X.K H (.ref a) d) (hs : d.showable = true) (hz : d.shown.length ≤ sizeLine) : ∃ T idr, ShowsBy X.prog X.w s.heap a d T idr := by
  obtain ⟨_, rd⟩ := Dz.reads I _ _ (Value.ref a) h rfl
  cases h with
  | @lst _ xs ds hq ha =>
    obtain ⟨its, rv, ⟨o, n, ho, hc, _, hd⟩, _⟩ := I.list hq
    have hz1 : (listText (PyData.shownAll ds)).length ≤ sizeLine := by simpa only [PyData.shown] using hz
    obtain ⟨bs, hb, hk⟩ := Dz.toldAll I ds _ its ha rv (by simpa [PyData.showable] using hs) (fun t ht => Nat.le_trans (listText_mem_le ht) hz1)
    have hna : a ∉ bs := not_mem_of_deeper rd (by simp only [PyData.depth]; omega) hb
    refine ⟨"list", "list.__repr__", F.slot_list_repr.toG, F.slot_list_str, F.slot_list_format, fun s' hk0 => ⟨o, hk0 _ _ ho, hc⟩, fun A E s' Q hg hu hk0 hQ => ?_⟩
    simp only [PyData.depth] at hu
    simp only [PyData.shown] at hQ
    cases its with
    | nil =>
      cases rv
      cases ha
      simp only [PyData.shownAll, listText_nil] at hQ
      exact call_list_repr_empty ⟨o, hk0 _ _ ho, hc⟩ (hk0 _ _ ho) hd (hQ s'.heap _ _ fun _ _ e => e)
    | cons y l => exact call_list_reprK ho hc hd hna (by simpa using hk.length_eq) (fun i z e => hk.item i z (by simpa using e)) hg (fun b _ => Clear.nil b) hu hk0 hQ hz1
  | @tup _ xs ds hq ha =>
    obtain ⟨its, rv, ⟨o, ho, hc, n, hd⟩, _⟩ := I.tuple hq
    have hz1 : (tupleText (PyData.shownAll ds)).length ≤ sizeLine := by simpa only [PyData.shown] using hz
    obtain ⟨bs, hb, hk⟩ := Dz.toldAll I ds _ its ha rv (by simpa [PyData.showable] using hs) (fun t ht => Nat.le_trans (tupleText_mem_le ht) hz1)
    have hna : a ∉ bs := not_mem_of_deeper rd (by simp only [PyData.depth]; omega) hb
    refine ⟨"tuple", "tuple.__repr__", F.slot_tuple_repr, F.slot_tuple_str, F.slot_tuple_format, fun s' hk0 => ⟨o, hk0 _ _ ho, hc⟩, fun A E s' Q hg hu hk0 hQ => ?_⟩
    simp only [PyData.depth] at hu
    simp only [PyData.shown] at hQ
    exact call_tuple_reprK ho hc hd hna (by simpa using hk) hg (fun b _ => Clear.nil b) hu hk0 hQ hz1
  | dic hq =>
    obtain ⟨o, es, n, ho, hc, hd, he, hsys⟩ := emptyDict I hq
    have k : ReprEntriesK X.prog X.w [] s.heap 0 es.toList [] := by rw [he]; exact .nil
    refine ⟨"dict", "dict.__repr__", F.slot_dict_repr, F.slot_dict_str, F.slot_dict_format, fun s' hk0 => ⟨o, hk0 _ _ ho, hc⟩, fun A E s' Q hg hu hk0 hQ => ?_⟩
    simp only [PyData.depth] at hu
    exact call_dict_reprK (as := []) ho hc hd hsys (by simp) k hg (fun b _ => Clear.nil b) (by omega) hk0 hQ (by decide +kernel)
end

/-- repr(x), x data; the answer is a text that its data alone tells -/
def rRepr (K : PySem.W.Frag) : List V → Hp → VK → Prop := fun xs H Q => ∃ v d, xs = [v] ∧ Dz K H v d ∧ d.showable = true ∧ d.depth ≤ 40 ∧ d.shown.length ≤ sizeLine ∧ Q (.str d.shown) H
theorem call_repr {X : Cx} {k : Nat} (c : Calm k X.A) : CallR X (.builtin "repr") (rRepr X.K) := by
  intro pins s σ H xs us Q I r h
  obtain ⟨v, d, rfl, hd, hs, hdp, hz, q⟩ := h
  cases r with
  | cons rv rn =>
    cases rn
    have hu := c.room.units
    cases hd with
    | non =>
      cases rv
      exact PySem.P.repr_of_none ⟨.str _, H, I.tok _, ⟨_, rfl⟩, q⟩
    | bl b =>
      cases rv
      exact PySem.P.repr_of_bool ⟨.str _, H, I.tok _, ⟨_, rfl⟩, q⟩
    | int i =>
      obtain ⟨t, rfl⟩ := rv
      exact PySem.P.repr_of_int (by simpa [PyData.showable] using hs) ⟨.str _, H, I.tok _, ⟨_, rfl⟩, q⟩
    | str x =>
      obtain ⟨t, rfl⟩ := rv
      exact PySem.P.repr_of_str ⟨.str _, H, I.tok _, ⟨_, rfl⟩, q⟩ (by simpa only [PyData.shown] using hz)
    | lst hq ha =>
      cases rv
      obtain ⟨T, idr, S⟩ := Dz.shows I (.lst hq ha) hs hz
      exact call_repr_slot (by omega) (S.typeIs s fun _ _ e => e) S.slotRepr (S.call X.A.in1 X.xe s _ c.gs (by show X.A.units + 1 + _ < cLine; omega) (fun _ _ e => e) fun h' u tk hk => ⟨_, _, rfl, .str _, H, I.kept (t' := tk) hk, ⟨_, rfl⟩, q⟩)
    | tup hq ha =>
      cases rv
      obtain ⟨T, idr, S⟩ := Dz.shows I (.tup hq ha) hs hz
      exact call_repr_slot (by omega) (S.typeIs s fun _ _ e => e) S.slotRepr (S.call X.A.in1 X.xe s _ c.gs (by show X.A.units + 1 + _ < cLine; omega) (fun _ _ e => e) fun h' u tk hk => ⟨_, _, rfl, .str _, H, I.kept (t' := tk) hk, ⟨_, rfl⟩, q⟩)
    | dic hq =>
      cases rv
      obtain ⟨T, idr, S⟩ := Dz.shows I (.dic hq) hs hz
      exact call_repr_slot (by omega) (S.typeIs s fun _ _ e => e) S.slotRepr (S.call X.A.in1 X.xe s _ c.gs (by show X.A.units + 1 + _ < cLine; omega) (fun _ _ e => e) fun h' u tk hk => ⟨_, _, rfl, .str _, H, I.kept (t' := tk) hk, ⟨_, rfl⟩, q⟩)
end XK

/-! A caught exception that is kept: tracked by its class and its own dict. -/
namespace XK
open PySem PySem.Spec PyProof.Rows L2

/-- at a: an exception object of the class cls, its own dict d -/
def Xo (a : Addr) (cls : Value) (d : Option Addr) : HO := .ext fun h => ∃ (oe : Obj) (vs : Array Value), h.get? a = some oe ∧ Zc cls d oe ∧ oe.data = .fields vs
theorem xo_ok {P : Program} {w : World} {H : Hp} {h : Heap} {a : Addr} {cls : Value} {d : Option Addr} {oe : Obj} {vs : Array Value} (e : h.get? a = some oe) (z : Zc cls d oe) (f : oe.data = .fields vs) : ObjOk P w H h a (Xo a cls d) :=
  ⟨⟨oe, vs, e, z, f⟩, ⟨oe, e⟩, fun _ _ ⟨o, v, q, r⟩ k => ⟨o, v, k o q, r⟩⟩
theorem xo_at {P : Program} {w : World} {H : Hp} {h : Heap} {a : Addr} {cls : Value} {d : Option Addr} (ok : HOk P w H h) (e : H a = some (Xo a cls d)) : ∃ (oe : Obj) (vs : Array Value), h.get? a = some oe ∧ Zc cls d oe ∧ oe.data = .fields vs := by
  have x : ObjOk P w H h a (Xo a cls d) := ok a _ e
  exact x.1

section
variable {X : Cx} {pins : List (Addr × Obj)} {σ : L2.St} {H : Hp} {s : Shared} {a : Addr} {cls : Value} {d : Option Addr}
/-- a new exception object is tracked from here on -/
theorem Inv.track (I : Inv X pins σ H s) {oe : Obj} {vs : Array Value} (e : s.heap.get? a = some oe) (z : Zc cls d oe) (f : oe.data = .fields vs) (na : H a = none) (n0 : X.s_0.heap.get? a = none) (np : ∀ p ∈ X.pn ++ pins, p.1 ≠ a) :
    Inv X pins σ (upd H a (Xo a cls d)) s := by
  have nL : X.env.locals ≠ a := fun q => by
    obtain ⟨m, ⟨o, es, ep, ho, hd, _⟩, _⟩ := I.loc
    rw [q, e] at ho
    cases ho
    rw [f] at hd
    cases hd
  have nC : ∀ x c, X.env.cells.lookup x = some c → c ≠ a := fun x c hc q => by
    obtain ⟨v, o, ho, hd⟩ := I.cell x c hc
    rw [q, e] at ho
    cases ho
    rw [f] at hd
    cases hd
  have n0' : ∀ {b : Addr} {o : Obj}, X.s_0.heap.get? b = some o → b ≠ a := fun {b o} q r => by
    rw [r, n0] at q
    cases q
  refine ⟨I.ok, I.os, I.bare, ⟨I.base.keep, I.base.slot, fun b o q n hx => ?_, I.base.there, fun b xs q => ?_, fun b o u q => ?_, fun b ps q => ?_⟩, I.loc, I.cell, ?_, fun x c hc => ?_, fun p hp => ?_, fun b o q => ?_, I.len⟩
  · rw [upd_ne (n0' q)]
    exact I.base.free b o q n hx
  · have r := I.base.tups b xs q
    rw [upd_ne (ne_of_none r na)]
    exact r
  · have r := I.base.frzs b o u q
    rw [upd_ne (ne_of_none r na)]
    exact r
  · obtain ⟨m, r⟩ := I.base.tbls b ps q
    exact ⟨m, by rw [upd_ne (ne_of_none r na)]; exact r⟩
  · rw [upd_ne nL]
    exact I.free
  · rw [upd_ne (nC x c hc)]
    exact I.freeC x c hc
  · obtain ⟨q1, q2, q3, q4, q5⟩ := I.pin p hp
    exact ⟨q1, by rw [upd_ne (np p hp)]; exact q2, q3, q4, q5⟩
  · by_cases hb : b = a
    · subst hb
      rw [upd_same] at q
      cases q
      exact xo_ok e z f
    · rw [upd_ne hb] at q
      exact (I.hok b o q).stay (fun c v _ r => r) (fun c r => by rw [upd_ne (ne_of_none r na)]; exact r) fun c xs r => by rw [upd_ne (ne_of_none r na)]; exact r
theorem Inv.toSuite (I : Inv X pins σ H s) (a : Addr) : Inv (X.suite a (X.pn ++ pins)) [] σ H s :=
  ⟨I.ok.suite _ _, I.os, I.bare, I.base, I.loc, I.cell, I.free, I.freeC, fun p hp => I.pin p (by rw [List.append_nil] at hp; exact hp), I.hok, I.len⟩
theorem Inv.offSuite {pn' : List (Addr × Obj)} (I : Inv (X.suite a (X.pn ++ pins)) pn' σ H s) (ok : X.Ok) : Inv X pins σ H s :=
  ⟨ok, I.os, I.bare, I.base, I.loc, I.cell, I.free, I.freeC, fun p hp => I.pin p (List.mem_append_left _ hp), I.hok, I.len⟩
end
theorem flying_more {base h h' : Heap} {l : List Env} {e : Addr} {Z : Obj → Prop} (x : HandSPX.FlyingZ base l e Z h) (k : ∀ b o, h.get? b = some o → h'.get? b = some o) : HandSPX.FlyingZ base l e Z h' := by
  obtain ⟨x1, x2, x3, oe, vs, T, oT, ts, y1, y2, y3, y4, y5, y6, y7, y8, y9⟩ := x
  exact ⟨fun b o q => k b o (x1 b o q), x2, Heap.FunFrames.of_keeps (fun b o q _ => ⟨o, k b o q, rfl⟩) x3, oe, vs, T, oT, ts, k _ _ y1, y2, y3, y4, y5, y6, k _ _ y7, y8, y9⟩

/-- what 'except (c1, c2, c3) as n' wishes of an exception of the body: it is one of these; from then on it is tracked -/
def wKeep (K : PySem.W.Frag) (cs : List Value) (i : Nat) (ts : TS) (D : Ends) : WX := fun cls d σ H =>
  PySem.W.exmAny K cls cs = some true ∧ ∀ a, H a = none → ts { nx := fun σ' H' => D.nx (σ'.set i none) H', rt := D.rt, bk := fun σ' H' => D.bk (σ'.set i none) H', ct := fun σ' H' => D.ct (σ'.set i none) H' } (σ.set i (some (.ref a))) (upd H a (Xo a cls d))
section
variable {X : Cx} {x1 x2 x3 n : Str} {c1 c2 c3 : Addr} {i : Nat} {body suite : List Stmt} {b₀ : Stmt} {k : Nat} {q1 q2 q3 q4 pos pos' : Pos} {tb : WX → TS} {ts : TS}
theorem ps_keep (hs : X.stack = X.env :: X.outer) (hf : X.env.frame = some X.env.locals) (hex : X.ex = []) (hN : X.N.Nodup) (hi : X.N[i]? = some n) (hln : X.env.kindOf n = some .local)
    (g1 : Gl X x1) (m1 : X.mg x1 = some (.ref c1)) (g2 : Gl X x2) (m2 : X.mg x2 = some (.ref c2)) (g3 : Gl X x3) (m3 : X.mg x3 = some (.ref c3))
    (hb : ∀ (W : WX) (pn : List (Addr × Obj)) (xe : Value → Shared → Prop), Takes (X.tr pn xe) W → PSs (X.tr pn xe) body (tb W))
    (hsu : ∀ (a : Addr) (pn : List (Addr × Obj)), PSs (X.suite a pn) (b₀ :: suite) ts)
    (d1 : (x1 == ("__debug__" : Str)) = false := by decide) (d2 : (x2 == ("__debug__" : Str)) = false := by decide) (d3 : (x3 == ("__debug__" : Str)) = false := by decide)
    (st1 : starEach [.Name x1 q1, .Name x2 q2, .Name x3 q3] X.env = (false, eval (.Name x1 q1) X.env) :: (false, eval (.Name x2 q2) X.env) :: (false, eval (.Name x3 q3) X.env) :: starEach [] X.env := by rfl) :
    PS X (.Try body [.ExceptHandler (some (.Tuple [.Name x1 q1, .Name x2 q2, .Name x3 q3] k q4)) (some n) (b₀ :: suite) pos'] [] [] pos) (fun D σ H => tb (wKeep X.K [.ref c1, .ref c2, .ref c3] i ts D) D σ H) := by
  refine ⟨fun pins s σ H D I h => ?_⟩
  have ok := I.ok
  have hfr : X.A.frames = some (X.env :: X.outer) := by rw [ok.frames, hs]
  refine wpAny_Try_except (wpAny_mono ((hb (wKeep X.K [.ref c1, .ref c2, .ref c3] i ts D) (X.pn ++ pins) (fun e s₁ => wpAny (model X.prog X.w) X.A (noteFrame e X.env) (fun _ s₂ => wpAny (model X.prog X.w) X.A (setFlight e none) (fun _ s₃ =>
    wpAny (model X.prog X.w) X.A (handleBy e X.env [.ExceptHandler (some (.Tuple [.Name x1 q1, .Name x2 q2, .Name x3 q3] k q4)) (some n) (b₀ :: suite) pos']) (SP X pins D) X.xe s₃) X.xe s₂) X.xe s₁) (fun u s' xx => ?_)).run [] s σ H D (I.toTry _) h) (fun f s1 hsp => ?_) (fun e s1 he => he))
  · obtain ⟨a, B, sI, pins', σ', H', cls, d, rfl, J', nb, up, sky, na, os, ag, hx, go⟩ := xx
    have J : Inv X pins σ' H' sI := J'.ofTry ok
    have sky' : Sky B (X.env :: X.outer) a (Zc cls d) X.env.locals s'.heap := by rw [← hs]; exact sky
    refine Sky.land Zc.steady hfr hf sky' fun h3 fl3 up3 => ?_
    have hBa : B.get? a = none := fl3.2.1
    have nfr : a ∉ frs X.stack := fun hm => by
      obtain ⟨oe, vs, e, _, dd⟩ := fl3.there
      rw [hs] at hm
      obtain ⟨_, o', e', hnf⟩ := fl3.2.2.1.mem hm
      rw [e] at e'
      cases e'
      exact hnf _ dd
    have nI : sI.heap.get? a = none := by
      cases e : sI.heap.get? a with
      | none => rfl
      | some o =>
        rw [nb a o e nfr] at hBa
        cases hBa
    have n0 : X.s_0.heap.get? a = none := by
      cases e : X.s_0.heap.get? a with
      | none => rfl
      | some o =>
        obtain ⟨o', e'⟩ := J.base.there a o e (by rw [hex]; exact fun z => nomatch z)
        rw [nI] at e'
        cases e'
    have np : ∀ p ∈ X.pn ++ pins, p.1 ≠ a := fun p hp z => by
      obtain ⟨e, _⟩ := J.pin p hp
      rw [z, nI] at e
      cases e
    have J3 : Inv X pins σ' H' { s' with heap := h3 } := J.landed nb fl3.1 (up.trans up3) os ag
    have S3 := Inv.toSuite J3 a
    refine wpAny_handleBy_cons (codeAny_handlers_test (wpAny_Tuple_spliced ?_)) (by intro q; cases q)
    rw [st1]
    refine Calls.spliced_cons (ld_glob (X := X.suite a (X.pn ++ pins)) S3 g1 m1 (Calls.spliced_cons (ld_glob (X := X.suite a (X.pn ++ pins)) S3 g2 m2 (Calls.spliced_cons (ld_glob (X := X.suite a (X.pn ++ pins)) S3 g3 m3 (Calls.spliced_nil ⟨by show 3 ≤ sizeLine; decide, ?_⟩) d3)) d2)) d1)
    have kp : ∀ b o, h3.get? b = some o → (h3.push { cls := .type "tuple", data := .seq [Value.ref c1, Value.ref c2, Value.ref c3].toArray }).get? b = some o := fun b o e => Heap.get?_push_of_some _ e
    obtain ⟨oe3, vs3, he3, hz3, hd3⟩ := fl3.there
    have LT : PySem.W.Looks (model X.prog X.w) (h3.push { cls := .type "tuple", data := .seq [Value.ref c1, Value.ref c2, Value.ref c3].toArray }) (typeOf (.ref a)) cls := fun A Q E s r q => wpAny_typeOf_ref (r _ _ (kp _ _ he3)) (by rw [hz3.1]; exact q)
    refine (PySem.W.exm_tup3 (J3.kIn.keeps kp) LT (Heap.get?_push_size _ rfl) hx).here ?_
    show codeAny _ _ _ _ _
    refine codeAny_handlers_suite_as ?_
    refine HandSPX.lands_againZ (flying_more fl3 kp) fun h4 fl4 up4 => ?_
    have upA : sI.heap.UpToSlots h4 := ((up.trans up3).trans (Heap.UpToSlots.of_keeps kp)).trans up4
    have J4 : Inv X pins σ' H' { s' with heap := h4 } := J.landed nb fl4.1 upA os ag
    obtain ⟨oe4, vs4, he4, hz4, hd4⟩ := fl4.there
    have S4 := Inv.toSuite (Inv.track J4 he4 hz4 hd4 na n0 np) a
    refine store_ok (X := X.suite a (X.pn ++ pins)) (v := .ref a) S4 hN hi (.inl hln) rfl (fun s5 S5 => ?_) (.inr hln)
    refine wpAny_mono ((hsu a (X.pn ++ pins)).run [] s5 _ _ _ S5 (go a na)) (fun f s6 hsp => ?_) (fun _ _ z => False.elim z)
    have fin : ∀ {σ6 : L2.St} {H6 : Hp} {Q : Shared → Prop}, Inv (X.suite a (X.pn ++ pins)) [] σ6 H6 s6 → (∀ s7, Inv X pins (σ6.set i none) H6 s7 → Q s7) →
        wpAny (model X.prog X.w) X.A (do bindName X.env n .none; unbindBehindTheSuite X.env n pos') (fun _ s7 => Q s7) X.xe s6 := fun {σ6 H6 Q} S6 hq => gone_ok (Inv.offSuite S6 ok) hN hi hln hq
    cases f with
    | next =>
      obtain ⟨σ6, H6, S6, q6⟩ := hsp
      exact fin S6 fun s7 J7 => ⟨_, _, J7, q6⟩
    | brk =>
      obtain ⟨σ6, H6, S6, q6⟩ := hsp
      exact fin S6 fun s7 J7 => ⟨_, _, J7, q6⟩
    | cont =>
      obtain ⟨σ6, H6, S6, q6⟩ := hsp
      exact fin S6 fun s7 J7 => ⟨_, _, J7, q6⟩
    | ret u =>
      obtain ⟨v6, σ6, H6, S6, r6, q6⟩ := hsp
      exact fin S6 fun s7 J7 => ⟨_, _, _, J7, r6, q6⟩
  · cases f with
    | next =>
      obtain ⟨σ', H', J', q⟩ := hsp
      exact wpAny_execs_nil ⟨σ', H', J'.ofTry ok, q⟩
    | brk =>
      obtain ⟨σ', H', J', q⟩ := hsp
      exact ⟨σ', H', J'.ofTry ok, q⟩
    | cont =>
      obtain ⟨σ', H', J', q⟩ := hsp
      exact ⟨σ', H', J'.ofTry ok, q⟩
    | ret u =>
      obtain ⟨v, σ', H', J', r, q⟩ := hsp
      exact ⟨v, σ', H', J'.ofTry ok, r, q⟩
end
end XK

/-! An own exception class with one field: raised, its field read, asked by isinstance. -/
namespace XK
open PySem PySem.Spec PyProof.Rows L2

/-- what the top has written of the class x (at C, its __init__ at fI, its field f) -/
structure Ec (K : PySem.W.Frag) (mg : Str → Option Value) (x : Str) (C fI : Addr) (f : Str) : Prop where
  gC : mg x = some (.ref C)
  ox : OexC K C
  iC : PySem.W.findIn K (.ref C) "__init__" = some (some (.ref fI))
  tI : PySem.W.typeIn K (.ref fI) = some (.type "function")
  nf : PySem.W.findIn K (.ref C) f = some none
  xf : XfC K C
  ec : ExcC K C

def spIni (C : Addr) (f : Str) : Sp := fun vs H Q _ => ∃ (a : Addr) (v : V), vs = [.ref a, v] ∧ H a = some (exo a C none) ∧ ∀ dx, H dx = none → dx ≠ a → Q .non (upd (upd H dx (exd dx [(f, v)])) a (exo a C (some dx)))

section
variable {P : Program} {w : World} {K : PySem.W.Frag} {mg : Str → Option Value} {base : Heap} {x f : Str} {C fI : Addr} {fd : FuncData} {st : Stmt} {q : Str}
/-- def __init__(self, f): self.f = f -/
theorem ini_ok (T : Ec K mg x C fI f) (F : Fun K "__init__" q st fI fd) (S : FnScope ["self", f] ["self", f] (defScope st)) {p1 p2 p3 p4 : Pos} (hb : defBody st = [.Assign [.Attribute (.Name "self" p1) f p2] (.Name f p3) p4])
    (v0 : Vis (defScope st) "self") (v1 : Vis (defScope st) f) (hd : (f == ("__debug__" : Str)) = false) (hcd : (f == ("__classdict__" : Str)) = false) : FnOk P w K mg base (L2.CX P w) 1 fI fd ["self", f] (spIni C f) := by
  refine F.okX S (fun vs H Q E h => ?_) (fun cdv A outer s H vs Q E hr h => ?_)
  · obtain ⟨a, v, rfl, _⟩ := h
    rfl
  · obtain ⟨a, v, rfl, ha, go⟩ := h
    rw [hb]
    refine ⟨_, pss_one (ps_ost (pe_var (i := 0) rfl v0 (by decide) (by decide)) (pe_var (i := 1) rfl v1 hd hcd)), ?_⟩
    exact ⟨v, rfl, .ref a, rfl, a, C, rfl, T.ox, T.nf, Or.inl ⟨ha, fun dx hn hne => go dx hn hne⟩⟩
end

section
variable {X : Cx} {x f : Str} {C fI : Addr} {fd : FuncData} {W : WX} {e : Expr} {te : TE} {p pos pos2 : Pos}
theorem ini_end {H : Hp} {a d : Addr} {v : V} (ha : H a = none) (hd : d ≠ a) : upd (del (upd (upd (upd H a (exo a C none)) d (exd d [(f, v)])) a (exo a C (some d))) a) d (.xd [(f, v)]) = upd H d (.xd [(f, v)]) := by
  funext b
  by_cases h1 : b = d
  · subst h1
    rw [upd_same, upd_same]
  · rw [upd_ne h1, upd_ne h1]
    by_cases h2 : b = a
    · subst h2
      rw [del_same, ha]
    · rw [del_ne h2, upd_ne h2, upd_ne h1, upd_ne h2]
/-- a reading that may be weakened -/
def up1 (te : TE) : TE := fun σ H Q => ∃ Q0 : VK, te σ H Q0 ∧ ∀ v H', Q0 v H' → Q v H'
theorem pe_up (he : PE X e te) : PE X e (up1 te) := ⟨fun pins s σ H Q I ⟨Q0, h, k⟩ => thn (he.run pins s σ H Q0 I h) fun u s1 ⟨v, H1, I1, r, q⟩ => ⟨v, H1, I1, r, k v H1 q⟩⟩
/-- raise x(e) -/
def tRz (C : Addr) (f : Str) (W : WX) (te : TE) : TS := fun _ σ H => te σ H fun v H1 => ∀ d, H1 d = none → W (.ref C) (some d) σ (upd H1 d (.xd [(f, v)]))
theorem ps_rz (T : Ec X.K X.mg x C fI f) (F : FnOk X.prog X.w X.K X.mg X.base (L2.CX X.prog X.w) 1 fI fd ["self", f] (spIni C f)) (hb : Binds X.K fd ["self", f] []) (hr : Room 2 X.A) (hc : X.calm = true) (tk : Takes X W) (he : PE X e te) (hg : Gl X x)
    (hdb : (x == ("__debug__" : Str)) = false := by decide) (hst : starEach [e] X.env = (false, eval e X.env) :: starEach [] X.env := by rfl) (hpl : (backTo pos (starEach [] X.env)).any (·.1) = false := by rfl) :
    PS X (.Raise (some (.Call (.Name x p) [e] [] pos)) none pos2) (tRz C f W te) := by
  have R := ps_raise (pos := pos2) hc tk (pmk_oex (p := p) (pos := pos) T.ox T.iC T.tI F hr hb .nil (fun _ _ _ _ _ _ _ h => by obtain ⟨_, _, _, _, _, _, _, _, _, _, _, _, z⟩ := h; exact z.elim) hg T.gC (pa_cons (pe_up he) pa_nil hst) hdb hst hpl)
  refine ⟨fun pins s σ H D I h => R.run pins s σ H D I ⟨_, h, fun v H1 k => ⟨by show 1 ≤ 1000; decide, fun a ha => ⟨a, v, rfl, upd_same, fun dx hn hne => ⟨rfl, dx, [(f, v)], upd_same, by rw [upd_ne hne, upd_same], by rw [upd_ne hne] at hn; exact hn, ?_⟩⟩⟩⟩⟩
  rw [ini_end ha hne]
  rw [upd_ne hne] at hn
  exact k dx hn

/-- e.n, e a kept exception -/
def tXo (K : PySem.W.Frag) (n : Str) (te : TE) : TE := fun σ H Q => te σ H fun x H1 => ∃ (a C d : Addr) (fs : List (Str × V)) (v : V), x = .ref a ∧ H1 a = some (Xo a (.ref C) (some d)) ∧ H1 d = some (.xd fs) ∧ XfC K C ∧ PySem.W.findIn K (.ref C) n = some none ∧ fs.lookup n = some v ∧ Q v H1
theorem xo_inst {pins : List (Addr × Obj)} {σ : L2.St} {H : Hp} {s : Shared} {a C d : Addr} {fs : List (Str × V)} (I : Inv X pins σ H s) (ea : H a = some (Xo a (.ref C) (some d))) (ed : H d = some (.xd fs)) :
    ∃ (oe od : Obj) (mA : Str → Option Value), PySem.W.InstAt s.heap a oe C (some od) ∧ (∀ n, PySem.W.lookIn n od = some (mA n)) ∧ ∀ n, RelO (fs.lookup n) (mA n) := by
  obtain ⟨oe, vs, he, hz, hd⟩ := xo_at I.hok ea
  obtain ⟨mA, hns, hr⟩ := (show ObjOk X.prog X.w H s.heap d (.xd fs) from I.hok d _ ed)
  obtain ⟨od, ho, hl⟩ := lookIn_ns hns
  exact ⟨oe, od, mA, ⟨he, hz.1, by unfold PySem.W.notCls; rw [hd] <;> rfl, by rw [hz.2]; exact ho⟩, hl, hr⟩
theorem pe_xo {n : Str} (he : PE X e te) (hb : attributeBase e n X.env (eval e X.env) = eval e X.env := by rfl) : PE X (.Attribute e n pos) (tXo X.K n te) := by
  refine ⟨fun pins s σ H Q I h => attr_of hb (thn (he.run pins s σ H _ I h) fun u s1 hh => ?_)⟩
  obtain ⟨x, H1, I1, rx, a, C, d, fs, v, rfl, ea, ed, T, hno, l, q⟩ := hh
  obtain rfl : u = Value.ref a := rx
  obtain ⟨oe, od, mA, J, hl, hr⟩ := xo_inst I1 ea ed
  obtain ⟨u, hu, ru⟩ := RelO.some_of (v := v) (o := mA n) (by rw [← l]; exact hr n)
  exact HandSPX.exc_get I1.kIn J T.ga T.gg T.exC (PySem.W.findObj_own T.hdC hno rfl (by rw [hl, hu])) (handed_of ru) ⟨v, H1, I1.tok _, ru, q⟩

/-- isinstance(e, c), e a kept exception -/
def rIsX (K : PySem.W.Frag) : List V → Hp → VK → Prop := fun xs H Q => ∃ (a C d : Addr) (fs : List (Str × V)) (c : V) (cv : Value) (b : Bool), xs = [.ref a, c] ∧ ClsV c cv ∧ H a = some (Xo a (.ref C) (some d)) ∧ H d = some (.xd fs) ∧ ExcC K C ∧ PySem.W.kitOne K (.ref C) cv = some b ∧ Q (.bl b) H
theorem kit_x {C a : Addr} {oe : Obj} {od : Option Obj} (T : ExcC X.K C) : PySem.W.KitX X.K (.ref a) (.ref C) (fun h => PySem.W.InstAt h a oe C od) :=
  PySem.W.kitx_exc (by
    obtain ⟨cd, hc, _⟩ := PySem.W.any_some T.hd
    rw [hc] <;> rfl) T.hg T.hk T.hs T.ha T.hn T.ht T.hm
theorem call_isx : CallR X (.builtin "isinstance") (rIsX X.K) := by
  intro pins s σ H xs us Q I r h
  obtain ⟨a, C, d, fs, c, cv, b, rfl, k, ea, ed, T, e, q⟩ := h
  obtain ⟨u1, u2, rfl, r1, r2⟩ := vals2 r
  have e2 := k.eq r2
  subst e2
  cases (show u1 = Value.ref a from r1)
  obtain ⟨oe, od, mA, J, _, _⟩ := xo_inst I ea ed
  exact PySem.W.kia_one (kit_x T) I.kIn J e (fun z => nomatch z) fun tk => ⟨.bl b, H, I.tok tk, rfl, q⟩
end
end XK

/-! enumerate over a tuple, over a text. -/
namespace PySem
set_option maxHeartbeats 4000000 in
theorem xk_enum_new {v : Value} {o : Obj} {G : Heap → Prop} (B : Begins v o G) :
    Meets (Builtin.«enumerate.__new__» ⟨[.type "enumerate", v], []⟩) (fun _ R s => G s.heap ∧
      R (.ok (.ret (.ref (s.heap.push o).objs.size))) { s with heap := (s.heap.push o).push { cls := .type "enumerate", data := .fields #[.none, .bool false, .ref s.heap.objs.size, rawInt 0, .none, .none] } }) :=
  .of_wp fun prog w A R s h => by
    obtain ⟨hp, g, d, tk, os⟩ := s
    obtain ⟨h1, h⟩ := h
    have sb := sub_enumerate
    have it1 : ∀ {A' : Around} {E : Value → Shared → Prop} {Q : Value → Shared → Prop}, Q (.ref hp.objs.size) ⟨hp.push o, g, d, tk, os⟩ → wpAny (model prog w) A' (pyIter v) Q E ⟨hp, g, d, tk, os⟩ :=
      fun q => B.iter prog w _ _ ⟨hp, g, d, tk, os⟩ _ h1 q
    wp_walk using it1
    refine wpAny_stack_any fun st => wpAny_pure ?_
    split
    · rename_i c _ _ _ _ _
      cases (c == Value.type "enumerate")
      · wp_walk using it1
        exact ⟨_, rfl, h⟩
      · wp_walk using it1
        exact ⟨_, rfl, h⟩
    · wp_walk using it1
      exact ⟨_, rfl, h⟩
theorem xk_enum_call {prog : Program} {w : World} {A : Around} {E : Value → Shared → Prop} {s : Shared} {v : Value} {o : Obj} {G : Heap → Prop} {Q : Value → Shared → Prop} (B : Begins v o G) (h1 : G s.heap)
    (h : ∀ h', IsEnum h' (s.heap.objs.size + 1) s.heap.objs.size 0 .none → h'.get? s.heap.objs.size = some o → (∀ b o, s.heap.get? b = some o → h'.get? b = some o) → Q (.ref (s.heap.objs.size + 1)) { s with heap := h' }) :
    wpAny (model prog w) A (call (.type "enumerate") [v]) Q E s := by
  refine callType_new F.called_enumerate (by decide) (F.typeCall_enumerate_1 _) (F.newCall_enumerate_1 _) (fun obj => F.args_object_init_2 obj _) F.entry_enumerate_new (xk_enum_new B) ⟨h1, ?_⟩
  have sz : (s.heap.push o).objs.size = s.heap.objs.size + 1 := Heap.size_push ..
  show _ ∧ _
  rw [sz]
  have en : IsEnum ((s.heap.push o).push { cls := .type "enumerate", data := .fields #[.none, .bool false, .ref s.heap.objs.size, rawInt 0, .none, .none] }) (s.heap.objs.size + 1) s.heap.objs.size 0 .none := by
    have z := Heap.get?_push_size (s.heap.push o) (o := { cls := .type "enumerate", data := .fields #[.none, .bool false, .ref s.heap.objs.size, rawInt 0, .none, .none] }) rfl
    rw [sz] at z
    exact z
  exact ⟨⟨_, en, rfl⟩, h _ en (Heap.get?_push_of_some _ (Heap.get?_push_size _ B.free)) fun b u x => Heap.get?_push_of_some _ (Heap.get?_push_of_some _ x)⟩
end PySem
namespace XK
open PySem PySem.Spec PyProof.Rows L2

/-- the tuple at a, its items with their numbers, in new pairs -/
def Iet (K : PySem.W.Frag) (a : Addr) (xs : List V) : It :=
  ⟨fun i H => SqT K H a xs ∧ i < xs.length, fun i H v H' => ∃ T x, v = .ref T ∧ H T = none ∧ H' = upd H T (.tup [.int (i : Nat), x]) ∧ xs[i]? = some x, fun i H => SqT K H a xs ∧ i = xs.length⟩
/-- a text's signs with their numbers -/
def Ies (z : Str) : It :=
  ⟨fun i _ => i < z.cps.size, fun i H v H' => ∃ T c, v = .ref T ∧ H T = none ∧ H' = upd H T (.tup [.int (i : Nat), .str ⟨#[c]⟩]) ∧ z.cps[i]? = some c, fun i _ => i = z.cps.size⟩
section
variable {P : Program} {w : World} {K : PySem.W.Frag} {elts : List Expr} {kk : Nat} {tpos : Pos}
/-- one pair handed out -/
theorem enum_step {X : Cx} {pins : List (Addr × Obj)} {σ : L2.St} {H : Hp} {s : Shared} {E : Value → Shared → Prop} {e it : Addr} {fp : List Addr} {n i : Nat} {Pr : Nat → Value → Prop} {St : Nat → Heap → Prop} {J : It} {tn : Nat → Heap → Prop} {old : Value}
    (I : Inv X pins σ H s) (hf : ∀ b ∈ [e, it], FpOk X pins H b) (D : Draws X.prog X.w X.A.in1 it fp n Pr St) (he : IsEnum s.heap e it ((i : Nat) : Int) old) (hst : St i s.heap) (hlt : i < n) (hne : e ≠ it) (hef : e ∉ fp)
    (val : ∀ u, Pr i u → ∃ x, RelV x u ∧ ∀ T, H T = none → J.yld i H (.ref T) (upd H T (.tup [.int (i : Nat), x])))
    (nxt : ∀ h' u, IsEnum h' e it ((i + 1 : Nat) : Int) u → St (i + 1) h' → tn (i + 1) h') :
    wpAny (model X.prog X.w) X.A (pyNext (.ref e)) (fun r s1 => ∃ u, r = some u ∧
      wpAny (model X.prog X.w) X.A (letOwnedTupleGo (.Tuple elts kk tpos) (.ref e) u) (fun _ s2 => ∃ x H', Inv X pins σ H' s2 ∧ RelV x u ∧ J.yld i H x H' ∧ tn (i + 1) s2.heap ∧ ∀ b ∈ [e, it], H' b = none) E s1) E s := by
  have hel : e < s.heap.objs.size := Heap.lt_size he
  have hil : it < s.heap.objs.size := by obtain ⟨o, q⟩ := D.live _ _ hst; exact Heap.lt_size q
  refine wpAny_pyNext_enum_itemD D he hst hlt hne hef fun u h' tk hu ho hst' hT hsz hk => ?_
  obtain ⟨x, ru, hy⟩ := val u hu
  refine ⟨_, rfl, wpAny_letOwnedTupleGo_enum (s := { s with heap := h', toks := tk + 1 }) ho fun h2 he2 sb => ?_⟩
  have hT2 : h2.get? s.heap.objs.size = some { cls := .type "tuple", data := .seq #[.int i tk, u] } := (sb.2 _ (Nat.ne_of_gt hel)).trans hT
  have new : ObjOk X.prog X.w (upd H s.heap.objs.size (.tup [.int (i : Nat), x])) h2 s.heap.objs.size (.tup [.int (i : Nat), x]) :=
    ⟨by show 2 ≤ sizeLine; decide, [.int i tk, u], .cons ⟨_, rfl⟩ (.cons ru .nil), ⟨_, hT2, rfl, _, rfl⟩⟩
  have I1 : Inv X pins σ (upd H s.heap.objs.size (.tup [.int (i : Nat), x])) { s with heap := h2, toks := tk + 1 } :=
    I.turnedNew (ch := [e, it]) (fun b ob hb q => (sb.2 b (fun z => hb (by simp [z]))).trans (hk b ob (fun z => hb (by simp [z])) (fun z => hb (by simp [z])) q)) hf (Nat.le_refl _) new
  have fr := I.hok.fresh (Nat.le_refl s.heap.objs.size)
  refine ⟨.ref s.heap.objs.size, _, I1, rfl, hy _ fr, nxt _ u ?_ (D.frame _ _ _ hst' fun b hb o q => (sb.2 b fun z => hef (z ▸ hb)).trans q), fun b hb => ?_⟩
  · have e1 : ((i + 1 : Nat) : Int) = (i : Int) + 1 := by omega
    rw [e1]
    exact he2
  · have hb' : b < s.heap.objs.size := by
      have e' : b = e ∨ b = it := by simpa using hb
      rcases e' with z | z
      · rw [z]; exact hel
      · rw [z]; exact hil
    rw [upd_ne (Nat.ne_of_lt hb')]
    exact (hf b hb).1
theorem turn_et (a e it : Addr) (xs : List V) :
    Turn P w K (.Tuple elts kk tpos) (Iet K a xs) [e, it] e (fun i h => (∃ old, IsEnum h e it ((i : Nat) : Int) old) ∧ h.IsTupleIter it a i ∧ e ≠ it ∧ e ≠ a ∧ a ≠ it) where
  mem := by simp
  obj := fun i h st b hb => by
    obtain ⟨⟨old, he⟩, ⟨o, ho, hc, hd⟩, _⟩ := st
    have e' : b = e ∨ b = it := by simpa using hb
    rcases e' with z | z
    · rw [z]; exact ⟨_, he, fun v q => nomatch q⟩
    · rw [z]; exact ⟨o, ho, fun v q => by rw [hd] at q; cases q⟩
  keep := fun i h h' st k => let ⟨⟨old, he⟩, hi, hne⟩ := st; ⟨⟨old, k e (by simp) _ he⟩, hi.at fun o q => k it (by simp) o q, hne⟩
  item := by
    intro X hP hw hK hc i pins s σ H E I hf st hg
    subst hP hw hK
    obtain ⟨⟨old, he⟩, hit, hne, hea, hai⟩ := st
    obtain ⟨hq, hlt⟩ := hg
    obtain ⟨its, rv, p, hz⟩ := I.tuple hq
    have hl := rv.length
    have D := Draws.tuple (prog := X.prog) (w := X.w) (A := X.A.in1) (I.ok.hd hc) it a hai its.toArray
    refine enum_step (J := Iet X.K a xs) (tn := fun i h => (∃ old, IsEnum h e it ((i : Nat) : Int) old) ∧ h.IsTupleIter it a i ∧ e ≠ it ∧ e ≠ a ∧ a ≠ it) (i := i) I hf D he ⟨hit, p⟩ (by simp; omega) hne (by simp [hne, hea]) (fun u hu => ?_) (fun h' u q1 q2 => ⟨⟨u, q1⟩, q2.1, hne, hea, hai⟩)
    have hx : xs[i]? = some xs[i] := by simp [hlt]
    obtain ⟨u', hu', ru⟩ := rv.get hx
    have hu2 : its[i]? = some u := by simpa using hu
    rw [hu'] at hu2
    cases hu2
    exact ⟨xs[i], ru, fun T hT => ⟨T, xs[i], rfl, hT, rfl, hx⟩⟩
  done := by
    intro X hP hw hK hc i pins s σ H E I hf st hg
    subst hP hw hK
    obtain ⟨⟨old, he⟩, hit, hne, hea, hai⟩ := st
    obtain ⟨hq, hle⟩ := hg
    obtain ⟨its, rv, p, hz⟩ := I.tuple hq
    obtain ⟨f0, f1, f2, f3, f4, f5⟩ := hf it (by simp)
    have hl := rv.length
    have D := Draws.tuple (prog := X.prog) (w := X.w) (A := X.A.in1) (I.ok.hd hc) it a hai its.toArray
    have hn : i = its.toArray.size := by simp; omega
    exact wpAny_pyNext_enum_endD D he (hn ▸ ⟨hit, p⟩) fun h' hx => ⟨rfl, I.turned (t' := s.toks) (fun b ob hb q => hx b ob hb q) f0 f1 f3 f4 f5⟩
  self := fun A i s Q E st h => let ⟨⟨_, he⟩, _⟩ := st; wpAny_pyIter_enum he h
theorem turn_es (e it : Addr) (z : Str) (t : Tok) :
    Turn P w K (.Tuple elts kk tpos) (Ies z) [e, it] e (fun i h => (∃ old, IsEnum h e it ((i : Nat) : Int) old) ∧ h.IsStrIter it (strIterType z) z t i ∧ e ≠ it) where
  mem := by simp
  obj := fun i h st b hb => by
    obtain ⟨⟨old, he⟩, ⟨o, ho, hc, hd⟩, _⟩ := st
    have e' : b = e ∨ b = it := by simpa using hb
    rcases e' with z | z
    · rw [z]; exact ⟨_, he, fun v q => nomatch q⟩
    · rw [z]; exact ⟨o, ho, fun v q => by rw [hd] at q; cases q⟩
  keep := fun i h h' st k => let ⟨⟨old, he⟩, ⟨o, ho, r⟩, hne⟩ := st; ⟨⟨old, k e (by simp) _ he⟩, ⟨o, k it (by simp) o ho, r⟩, hne⟩
  item := by
    intro X hP hw hK hc i pins s σ H E I hf st hg
    subst hP hw hK
    obtain ⟨⟨old, he⟩, hit, hne⟩ := st
    have D := Draws.text (prog := X.prog) (w := X.w) (A := X.A.in1) (I.ok.hd hc) it z t
    refine enum_step (J := Ies z) (tn := fun i h => (∃ old, IsEnum h e it ((i : Nat) : Int) old) ∧ h.IsStrIter it (strIterType z) z t i ∧ e ≠ it) (i := i) I hf D he hit hg hne (by simp [hne]) (fun u hu => ?_) (fun h' u q1 q2 => ⟨⟨u, q1⟩, q2, hne⟩)
    obtain ⟨c, u', hc', rfl⟩ := hu
    exact ⟨.str ⟨#[c]⟩, ⟨_, rfl⟩, fun T hT => ⟨T, c, rfl, hT, rfl, hc'⟩⟩
  done := by
    intro X hP hw hK hc i pins s σ H E I hf st hg
    subst hP hw hK
    obtain ⟨⟨old, he⟩, hit, hne⟩ := st
    obtain ⟨f0, f1, f2, f3, f4, f5⟩ := hf it (by simp)
    have D := Draws.text (prog := X.prog) (w := X.w) (A := X.A.in1) (I.ok.hd hc) it z t
    have hn : i = z.cps.size := hg
    subst hn
    exact wpAny_pyNext_enum_endD D he hit fun h' hx => ⟨rfl, I.turned (t' := s.toks) (fun b ob hb q => hx b ob hb q) f0 f1 f3 f4 f5⟩
  self := fun A i s Q E st h => let ⟨⟨_, he⟩, _⟩ := st; wpAny_pyIter_enum he h
end
section
variable {X : Cx} {e : Expr} {ta : TA} {p pos tpos : Pos} {elts : List Expr} {kk : Nat}
def iEt (K : PySem.W.Frag) (ta : TA) : TI := fun σ H R => ta σ H fun vs H1 => ∃ a xs, vs = [.ref a] ∧ SqT K H1 a xs ∧ R (Iet K a xs) H1
def iEs (ta : TA) : TI := fun σ H R => ta σ H fun vs H1 => ∃ z, vs = [.str z] ∧ R (Ies z) H1
/-- .. in enumerate(t), t a tuple -/
theorem pi_et (hg : Gl X "enumerate") (hm : X.mg "enumerate" = none) (ha : PA X [e] ta) (hs : starEach [e] X.env = [(false, eval e X.env)] := by rfl) : PI X (.Tuple elts kk tpos) (.Call (.Name "enumerate" p) [e] [] pos) (iEt X.K ta) := by
  refine ⟨fun pins s σ H R I h => Call_ (ld_blt I hg hm boot_enumerate (PyProof.Rows.callWith_type1 (thn (ha.run pos pins s σ H _ I h) fun us s1 ⟨vs, H1, I1, r1, q1⟩ => ?_) hs rfl))⟩
  obtain ⟨a, xs, rfl, hq, q⟩ := q1
  cases r1 with
  | cons r rr =>
    cases rr
    cases r
    obtain ⟨its, rv, p', hz⟩ := I1.tuple hq
    refine xk_enum_call (begins_tuple a its.toArray) p' fun h' he hit hk => wpAny_pyIter_enum he ?_
    have I2 : Inv X pins σ H1 { s1 with heap := h' } := I1.kept (t' := s1.toks) hk
    have hal : a < s1.heap.objs.size := p'.lt
    refine ⟨s1.heap.objs.size + 1, [s1.heap.objs.size + 1, s1.heap.objs.size], _, _, H1, rfl, I2, turn_et a (s1.heap.objs.size + 1) s1.heap.objs.size xs, ⟨⟨.none, he⟩, ⟨_, hit, rfl, rfl⟩, Nat.succ_ne_self _, Nat.ne_of_gt (Nat.lt_succ_of_lt hal), Nat.ne_of_lt hal⟩, fun b hb => ?_, q⟩
    have e' : b = s1.heap.objs.size + 1 ∨ b = s1.heap.objs.size := by simpa using hb
    have hle : s1.heap.objs.size ≤ b := by
      rcases e' with y | y
      · rw [y]; exact Nat.le_succ _
      · rw [y]; exact Nat.le_refl _
    exact I1.fpOk hle (I1.hok.fresh hle)
/-- .. in enumerate(z), z a text -/
theorem pi_es (hg : Gl X "enumerate") (hm : X.mg "enumerate" = none) (ha : PA X [e] ta) (hs : starEach [e] X.env = [(false, eval e X.env)] := by rfl) : PI X (.Tuple elts kk tpos) (.Call (.Name "enumerate" p) [e] [] pos) (iEs ta) := by
  refine ⟨fun pins s σ H R I h => Call_ (ld_blt I hg hm boot_enumerate (PyProof.Rows.callWith_type1 (thn (ha.run pos pins s σ H _ I h) fun us s1 ⟨vs, H1, I1, r1, q1⟩ => ?_) hs rfl))⟩
  obtain ⟨z, rfl, q⟩ := q1
  cases r1 with
  | cons r rr =>
    cases rr
    obtain ⟨t, rfl⟩ := r
    refine xk_enum_call (begins_text z t) trivial fun h' he hit hk => wpAny_pyIter_enum he ?_
    have I2 : Inv X pins σ H1 { s1 with heap := h' } := I1.kept (t' := s1.toks) hk
    refine ⟨s1.heap.objs.size + 1, [s1.heap.objs.size + 1, s1.heap.objs.size], _, _, H1, rfl, I2, turn_es (s1.heap.objs.size + 1) s1.heap.objs.size z t, ⟨⟨.none, he⟩, ⟨_, hit, rfl, rfl⟩, Nat.succ_ne_self _⟩, fun b hb => ?_, q⟩
    have e' : b = s1.heap.objs.size + 1 ∨ b = s1.heap.objs.size := by simpa using hb
    have hle : s1.heap.objs.size ≤ b := by
      rcases e' with y | y
      · rw [y]; exact Nat.le_succ _
      · rw [y]; exact Nat.le_refl _
    exact I1.fpOk hle (I1.hok.fresh hle)
end
/-- a loop over such an iterator: n turns -/
theorem for_ix {J : It} {n : Nat} {g : TG} {tb : TS} {D : Ends} {σ : L2.St} {H : Hp} (Pv : Nat → L2.St → Hp → Prop) (h0 : Pv 0 σ H) (hgo : ∀ i σ H, i < n → Pv i σ H → J.go i H) (hst : ∀ σ H, Pv n σ H → J.stop n H)
    (hs : ∀ i σ H x H', i < n → Pv i σ H → J.yld i H x H' → g x σ H' fun σ2 H2 => tb { D with nx := Pv (i + 1), ct := Pv (i + 1), bk := D.nx } σ2 H2) (hd : ∀ σ H, Pv n σ H → D.nx σ H) :
    ∃ W : Nat → Nat → L2.St → Hp → Prop, (∃ m, W 0 m σ H) ∧ ∀ i m σ H, W i m σ H →
      (J.stop i H ∧ D.nx σ H) ∨ (J.go i H ∧ ∃ N : L2.St → Hp → Prop, (∀ σ' H', N σ' H' → ∃ m', m' < m ∧ W (i + 1) m' σ' H') ∧ ∀ x H', J.yld i H x H' → g x σ H' fun σ2 H2 => tb { D with nx := N, ct := N, bk := D.nx } σ2 H2) := by
  refine ⟨fun i m σ H => m = n - i ∧ i ≤ n ∧ Pv i σ H, ⟨n, by simp, Nat.zero_le _, h0⟩, ?_⟩
  rintro i m σ H ⟨rfl, hi, p⟩
  by_cases hlt : i < n
  · exact .inr ⟨hgo i σ H hlt p, Pv (i + 1), fun σ' H' p' => ⟨n - (i + 1), by omega, rfl, hlt, p'⟩, fun x H' y => hs i σ H x H' hlt p y⟩
  · obtain rfl : i = n := by omega
    exact .inl ⟨hst σ H p, hd σ H p⟩
end XK

/-! Readings, one step each. -/
namespace XK
open PySem PySem.Spec PyProof.Rows L2
section
variable {σ : L2.St} {H : Hp} {Q : VK} {i : Nat} {v x y : V} {ta tb te : TE} {K : PySem.W.Frag}
theorem n_var (h : σ[i]? = some (some v)) (q : Q v H) : tVar i σ H Q := ⟨v, h, q⟩
theorem n_c (q : Q v H) : tC v σ H Q := q
theorem n_op {r : R2} (h : ta σ H fun x H1 => tb σ H1 fun y H2 => r x y H2 Q) : tOp r ta tb σ H Q := h
theorem n_un {r : V → Hp → VK → Prop} (h : ta σ H fun x H1 => r x H1 Q) : tUn r ta σ H Q := h
theorem n_I0 {g : Int → Int → V} {a b : Int} (q : Q (g a b) H) : rI0 g (.int a) (.int b) H Q := ⟨a, b, rfl, rfl, q⟩
theorem n_U {g : Int → V} {a : Int} (q : Q (g a) H) : rU g (.int a) H Q := ⟨a, rfl, q⟩
theorem n_mod {g : Int → Int → V} {a b : Int} (h : 0 < b) (q : Q (g a b) H) : rI (fun _ j => 0 < j) g (.int a) (.int b) H Q := ⟨a, b, rfl, rfl, h, q⟩
theorem n_mul {g : Int → Int → V} {a b : Int} (h : (-(2 ^ 64) < a ∧ a < 2 ^ 64) ∨ (-(2 ^ 64) < b ∧ b < 2 ^ 64)) (q : Q (g a b) H) : rI CMul g (.int a) (.int b) H Q := ⟨a, b, rfl, rfl, h, q⟩
theorem n_div {g : Int → Int → V} {a b : Int} (h : 0 < b ∧ b < 1073741824) (q : Q (g a b) H) : rI CDiv g (.int a) (.int b) H Q := ⟨a, b, rfl, rfl, h, q⟩
theorem n_pow {g : Int → Int → V} {a b : Int} (h : 0 ≤ b ∧ b ≤ 1000000 ∧ a.natAbs < 2 ^ 64) (q : Q (g a b) H) : rI CPow g (.int a) (.int b) H Q := ⟨a, b, rfl, rfl, h, q⟩
theorem n_eq (h : scal x y = true) (q : Q (.bl (decide (x = y))) H) : rEq x y H Q := ⟨h, q⟩
theorem n_ne (h : scal x y = true) (q : Q (.bl (!decide (x = y))) H) : rNe x y H Q := ⟨h, q⟩
theorem n_nil {Q : List V → Hp → Prop} (q : Q [] H) : tNil σ H Q := q
theorem n_cons {t : TA} {Q : List V → Hp → Prop} (h : ta σ H fun x H1 => t σ H1 fun xs H2 => Q (x :: xs) H2) : tCons ta t σ H Q := h
theorem n_tup {t : TA} (h : t σ H fun xs H1 => xs.length ≤ sizeLine ∧ ∀ p, H1 p = none → Q (.ref p) (upd H1 p (.tup xs))) : tTup t σ H Q := h
theorem n_lst {t : TA} (h : t σ H fun xs H1 => xs.length ≤ sizeLine ∧ ∀ p, H1 p = none → Q (.ref p) (upd H1 p (.lst xs))) : tLst t σ H Q := h
theorem n_cb {r : List V → Hp → VK → Prop} {t : TA} (h : t σ H fun vs H1 => r vs H1 Q) : tCB r t σ H Q := h
theorem n_callS {sp : Sp} {E : L2.St → XK} {t : TA} (h : t σ H fun vs H1 => sp vs H1 Q (E σ)) : tCallS sp E t σ H Q := h
theorem n_callGK {sp : Sp} {gV : List V → List V → List V} {E : L2.St → XK} {t tk : TA} (h : t σ H fun vs H1 => tk σ H1 fun zs H2 => sp (gV vs zs) H2 Q (E σ)) : tCallGK sp gV E t tk σ H Q := h
theorem n_if {t : TT} (h : t σ H fun c H1 => if c = true then ta σ H1 Q else tb σ H1 Q) : tIf t ta tb σ H Q := h
section
variable {t u : TT} {T : Bool → Hp → Prop}
theorem n_test (h : te σ H fun x H' => ∃ k, x = .bl k ∧ T k H') : tTest te σ H T := h
theorem n_tB (h : te σ H fun x H' => ∃ k, x = .bl k ∧ T k H') : tB te σ H T := h
theorem n_bl {b : Bool} {R : Bool → Prop} (q : R b) : ∃ k, V.bl b = .bl k ∧ R k := ⟨b, rfl, q⟩
theorem n_not (h : t σ H fun c H1 => T (!c) H1) : tNot t σ H T := h
theorem n_and (h : t σ H fun c H1 => if c = true then u σ H1 T else T false H1) : tAnd t u σ H T := h
theorem n_or (h : t σ H fun c H1 => if c = true then T true H1 else u σ H1 T) : tOr t u σ H T := h
end
theorem n_andV (h : ta σ H fun x H1 => ∃ c, x = .bl c ∧ if c = true then tb σ H1 Q else Q (.bl false) H1) : tAndV ta tb σ H Q := h
theorem n_orV (h : ta σ H fun x H1 => ∃ c, x = .bl c ∧ if c = true then Q (.bl true) H1 else tb σ H1 Q) : tOrV ta tb σ H Q := h
theorem n_notV (h : ta σ H fun x H1 => ∃ c, x = .bl c ∧ Q (.bl (!c)) H1) : tNotV ta σ H Q := h
end
section
variable {D : Ends} {σ : L2.St} {H : Hp} {t1 t2 : TS} {te : TE} {tt : TT} {i : Nat}
theorem m_seq (h : t1 { D with nx := t2 D } σ H) : tSeq t1 t2 D σ H := h
theorem m_asg (h : te σ H fun v H1 => D.nx (σ.set i (some v)) H1) : tAsg te (gName i) D σ H := h
theorem m_ret (h : te σ H D.rt) : tRet te D σ H := h
theorem m_drop (h : te σ H fun _ H1 => D.nx σ H1) : tDrop te D σ H := h
theorem m_next (h : D.nx σ H) : tNext D σ H := h
theorem m_if (h : tt σ H fun c H1 => if c = true then t1 D σ H1 else t2 D σ H1) : tIfS tt t1 t2 D σ H := h
end

/-! dicts by text keys -/
theorem n_dg {H : Hp} {R : V → Prop} {p : Addr} {kvs : List (Key × V)} {k : Str} {v : V} (e : H p = some (.dK kvs)) (g : valV kvs (Sum.inr k : Key) = some v) (q : R v) : ∃ a v, V.ref p = .ref a ∧ DGet H a (.str k) (some v) ∧ R v :=
  ⟨p, v, rfl, by rw [← g]; exact DGet.k (k := (Sum.inr k : Key)) e, q⟩
theorem n_dp {H : Hp} {p : Addr} {kvs kvs' : List (Key × V)} {k : Str} {v : V} {N : Hp → Prop} (e : H p = some (.dK kvs)) (g : putK kvs (Sum.inr k : Key) v = kvs') (hl : kvs.length ≤ 1000) (q : N (upd H p (.dK kvs'))) : ∃ a H', V.ref p = .ref a ∧ DPut H a (.str k) v H' ∧ N H' :=
  ⟨p, _, rfl, DPut.k (k := (Sum.inr k : Key)) e (small1000 hl), by rw [g]; exact q⟩
theorem n_tdg {σ : L2.St} {H : Hp} {Q : VK} {td ty : TE} (h : td σ H fun x H1 => ty σ H1 fun y H2 => ∃ a v, x = .ref a ∧ DGet H2 a y (some v) ∧ Q v H2) : tDGet td ty σ H Q := h
theorem m_dput {D : Ends} {σ : L2.St} {H : Hp} {td ty tv : TE} (h : tv σ H fun v H1 => td σ H1 fun x H2 => ty σ H2 fun y H3 => ∃ a H4, x = .ref a ∧ DPut H3 a y v H4 ∧ D.nx σ H4) : sDPut td ty tv D σ H := h
/-! list + list, both to be read -/
def rCatL (K : PySem.W.Frag) : R2 := fun x y H Q => ∃ l b xs zs, x = .ref l ∧ y = .ref b ∧ SqL K H l xs ∧ SqL K H b zs ∧ xs.length + zs.length ≤ sizeLine ∧ ∀ p, H p = none → Q (.ref p) (upd H p (.lst (xs ++ zs)))
theorem op_catL {X : Cx} : OpR X (binaryOp .Add) (rCatL X.K) := by
  intro pins s σ H x y v u Q I rx ry h
  obtain ⟨l, b, xs, zs, rfl, rfl, hl, hb, hz, q⟩ := h
  cases rx
  cases ry
  obtain ⟨its, r, ⟨⟨c1, d1, dt1, s1⟩, n, ho, hc, _, hd⟩, z1⟩ := I.list hl
  obtain ⟨its2, r2, ⟨⟨c2, d2, dt2, s2⟩, n2, ho2, hc2, _, hd2⟩, z2⟩ := I.list hb
  simp only at hc hd hc2 hd2
  subst hc hd hc2 hd2
  have e1 := r.length
  have e2 := r2.length
  have e : its.toArray ++ its2.toArray = (its ++ its2).toArray := by simp
  refine concat_meets ⟨_, ho, rfl⟩ ⟨_, ho2, rfl⟩ noFill_list_add seq_list_add PySem.F.slot_list_add PySem.F.entry_list_add (PySem.F.args_list_add_2 _ _) (list_addW l b its.toArray its2.toArray n n2 d1 d2 s1 s2 (by simp; omega)) ⟨ho, ho2, ?_⟩
  rw [e]
  exact ⟨.ref _, _, I.lnew (t' := s.toks) (r.append r2) (by rw [List.length_append]; exact hz), rfl, q _ I.fresh⟩
theorem merge_new : ∀ (kvs acc : List (Key × V)), (∀ kv ∈ kvs, valV acc kv.1 = none) → (kvs.map (·.1)).Nodup → mergeK acc kvs = acc ++ kvs
  | [], acc, _, _ => (List.append_nil acc).symm
  | x :: r, acc, h, nd => by
    have h1 := h x List.mem_cons_self
    have nd2 := List.nodup_cons.mp (show (x.1 :: r.map (·.1)).Nodup from nd)
    show mergeK (putK acc x.1 x.2) r = acc ++ x :: r
    rw [putK_new x.2 h1, merge_new r (acc ++ [(x.1, x.2)]) (fun kv hk => ?_) nd2.2, List.append_assoc]
    · rfl
    · rw [valV_snoc x.1 kv.1 x.2 acc h1, if_neg (fun e : kv.1 = x.1 => nd2.1 (by rw [← e]; exact List.mem_map_of_mem hk))]
      exact h kv (List.mem_cons_of_mem _ hk)
theorem merge_nil {kvs : List (Key × V)} (nd : (kvs.map (·.1)).Nodup) : mergeK [] kvs = kvs := merge_new kvs [] (fun _ _ => rfl) nd
theorem n_ite {b : Bool} {A B : Prop} (h1 : b = true → A) (h2 : b = false → B) : if b = true then A else B := by
  cases b with
  | true => exact h1 rfl
  | false => exact h2 rfl
theorem d_true {p : Prop} [Decidable p] (h : decide p = true) : p := of_decide_eq_true h
theorem d_false {p : Prop} [Decidable p] (h : decide p = false) : ¬ p := of_decide_eq_false h
theorem at_in {α : Type} {xs : List α} {i : Int} (h0 : 0 ≤ i) (h1 : i < xs.length) : ∃ v, atI xs i = some v ∧ v ∈ xs := by
  obtain ⟨j, rfl⟩ := Int.eq_ofNat_of_zero_le h0
  have hj : j < xs.length := by omega
  exact ⟨xs[j], atI_nat (by simp [hj]), List.getElem_mem hj⟩
theorem at_ints {ns : List Int} {i : Int} (h0 : 0 ≤ i) (h1 : i < (ns.map V.int).length) : ∃ n, atI (ns.map V.int) i = some (.int n) := by
  obtain ⟨v, e, hm⟩ := at_in h0 h1
  obtain ⟨n, _, rfl⟩ := List.mem_map.mp hm
  exact ⟨n, e⟩
section
variable {D : Ends} {σ : L2.St} {H : Hp} {Q : VK} {K : PySem.W.Frag}
theorem m_par {i j : Nat} {ta : TA} (h : ta σ H fun vs H1 => ∃ v w, vs = [v, w] ∧ D.nx ((σ.set i (some v)).set j (some w)) H1) : tPar i j ta D σ H := h
theorem n_vw {v w : V} {R : V → V → Prop} (q : R v w) : ∃ v' w', [v, w] = [v', w'] ∧ R v' w' := ⟨v, w, rfl, q⟩
theorem m_for {wi : TI} {g : TG} {tb : TS} (h : wi σ H fun J H1 => ∃ W : Nat → Nat → L2.St → Hp → Prop, (∃ m, W 0 m σ H1) ∧ ∀ i m σ H, W i m σ H →
    (J.stop i H ∧ D.nx σ H) ∨ (J.go i H ∧ ∃ N : L2.St → Hp → Prop, (∀ σ' H', N σ' H' → ∃ m', m' < m ∧ W (i + 1) m' σ' H') ∧ ∀ x H', J.yld i H x H' → g x σ H' fun σ2 H2 => tb { D with nx := N, ct := N, bk := D.nx } σ2 H2)) : tFor wi g tb D σ H := h
theorem n_rng1 {ta : TA} {R : It → Hp → Prop} (h : ta σ H fun vs H1 => ∃ j : Int, vs = [.int j] ∧ -(2 ^ 62) ≤ j ∧ j < 2 ^ 62 ∧ R (Itr 0 j.toNat) H1) : iRng1 ta σ H R := h
theorem n_bm {T : String} {r : V → List V → Hp → VK → Prop} {to : TE} {t : TA} (h : to σ H fun x H1 => tyV K T x H1 ∧ t σ H1 fun xs H2 => r x xs H2 Q) : tBM K T r to t σ H Q := h
theorem n_bm0 {T : String} {r : V → List V → Hp → VK → Prop} {to : TE} (h : to σ H fun x H1 => tyV K T x H1 ∧ r x [] H1 Q) : tBM0 K T r to σ H Q := h
theorem n_app {l : Addr} {xs : List V} {y : V} (h : H l = some (.lst xs)) (z : xs.length < 1000) (q : Q .non (upd H l (.lst (xs ++ [y])))) : rAppend (.ref l) [y] H Q := ⟨l, xs, y, rfl, rfl, h, small1000 (Nat.le_of_lt z), q⟩
theorem n_lty {l : Addr} {xs : List V} {A : Prop} (h : H l = some (.lst xs)) (q : A) : tyV K "list" (.ref l) H ∧ A := ⟨Or.inl ⟨rfl, _, SqL.of h⟩, q⟩
theorem n_ixL {p : Addr} {xs : List V} {i : Int} {v : V} (h : SqL K H p xs) (e : atI xs i = some v) (q : Q v H) : rIxL K (.ref p) (.int i) H Q := ⟨p, xs, i, v, rfl, rfl, h, e, q⟩
theorem n_ixT {p : Addr} {xs : List V} {i : Int} {v : V} (h : SqT K H p xs) (e : atI xs i = some v) (q : Q v H) : rIxT K (.ref p) (.int i) H Q := ⟨p, xs, i, v, rfl, rfl, h, e, q⟩
end
theorem m_gn {i : Nat} {v : V} {σ : L2.St} {H : Hp} {R : L2.St → Hp → Prop} (h : R (σ.set i (some v)) H) : gName i v σ H R := h
section
variable {D : Ends} {σ : L2.St} {H : Hp} {Q : VK} {K : PySem.W.Frag}
theorem m_asgG {te : TE} {g : TG} (h : te σ H fun x H1 => g x σ H1 D.nx) : tAsg te g D σ H := h
theorem n_gnil {R : L2.St → Hp → Prop} (q : R σ H) : gNil [] σ H R := ⟨rfl, q⟩
theorem n_gcons {t : TG} {u : TGs} {v : V} {r : List V} {R : L2.St → Hp → Prop} (h : t v σ H fun σ' H' => u r σ' H' R) : gCons t u (v :: r) σ H R := ⟨v, r, rfl, h⟩
theorem n_gtup {n : Nat} {t : TGs} {a : Addr} {xs : List V} {R : L2.St → Hp → Prop} (h : SqT K H a xs) (l : xs.length = n) (q : t xs σ H R) : gTup K n t (.ref a) σ H R := ⟨a, xs, rfl, h, l, q⟩
theorem n_sl {r : V → Option Int → Option Int → Hp → VK → Prop} {te : TE} {tl th : TO} (h : te σ H fun x H1 => tl σ H1 fun l H2 => th σ H2 fun u H3 => r x l u H3 Q) : L2.tSl r te tl th σ H Q := h
theorem n_nop {R : Option Int → Hp → Prop} (q : R none H) : tNoPart σ H R := q
theorem n_part {t : TE} {R : Option Int → Hp → Prop} (h : t σ H fun x H1 => ∃ i, x = .int i ∧ R (some i) H1) : tPart t σ H R := h
theorem n_int {i : Int} {R : Int → Prop} (q : R i) : ∃ j, V.int i = .int j ∧ R j := ⟨i, rfl, q⟩
theorem n_slS {z : Str} {l u : Option Int} (hz : z.length ≤ 100000) (q : Q (.str (cutS z l u)) H) : rSlS (.str z) l u H Q := ⟨z, rfl, Nat.le_trans hz (by decide), q⟩
end
theorem cutS_mem {z : Str} {l u : Option Int} {c : Nat} (h : c ∈ (cutS z l u).cps.toList) : c ∈ z.cps.toList := by
  have h1 : c ∈ (z.cps.toList.drop (HT.sIx z.length 0 l)).take (HT.sIx z.length z.length u - HT.sIx z.length 0 l) := by simpa [cutS] using h
  exact List.mem_of_mem_drop (List.mem_of_mem_take h1)
/-- cut at one place -/
theorem cutS_len2 {z : Str} {k : Int} (h0 : 0 ≤ k) (h1 : k ≤ z.length) : (cutS z none (some k)).length + (cutS z (some k) none).length = z.length := by
  obtain ⟨j, rfl⟩ := Int.eq_ofNat_of_zero_le h0
  have e1 : HT.sIx z.length z.length (some (j : Int)) = min j z.length := HT.sIx_nat _ _ _
  have e2 : HT.sIx z.length 0 (some (j : Int)) = min j z.length := HT.sIx_nat _ _ _
  show (((z.cps.toList.drop 0).take (HT.sIx z.length z.length (some (j : Int)) - 0)).toArray).size + (((z.cps.toList.drop (HT.sIx z.length 0 (some (j : Int)))).take (z.length - HT.sIx z.length 0 (some (j : Int)))).toArray).size = z.cps.size
  rw [e1, e2, List.size_toArray, List.size_toArray, List.length_take, List.length_take, List.length_drop, List.length_drop, Array.length_toList]
  show min (min j z.cps.size - 0) (z.cps.size - 0) + min (z.cps.size - min j z.cps.size) (z.cps.size - min j z.cps.size) = z.cps.size
  omega
end XK

/-! More by values: a text times a number. -/
namespace XK
open PySem PySem.Spec PyProof.Rows L2
def repS (k : Nat) (a : Str) : Str := ⟨((List.replicate k a.cps.toList).flatten).toArray⟩
theorem rep_fold (c : Array Nat) : ∀ (n : Nat) (acc : Array Nat), (List.replicate n c).foldl (· ++ ·) acc = acc ++ ((List.replicate n c.toList).flatten).toArray
  | 0, acc => by simp
  | n + 1, acc => by
    rw [List.replicate_succ, List.foldl_cons, rep_fold c n, List.replicate_succ, List.flatten_cons]
    rw [Array.append_assoc]
    congr 1
    apply Array.ext'
    simp
theorem repS_len (k : Nat) (a : Str) : (repS k a).length = k * a.length := by
  show (((List.replicate k a.cps.toList).flatten).toArray).size = k * a.cps.size
  rw [List.size_toArray, List.length_flatten, List.map_replicate, List.sum_replicate_nat, Array.length_toList]
def rMulS : R2 := fun x y H Q => ∃ (a : Str) (k : Int), x = .str a ∧ y = .int k ∧ 0 ≤ k ∧ k ≤ 1000 ∧ a.length ≤ 1000 ∧ Q (.str (repS k.toNat a)) H
theorem op_mulS {X : Cx} : OpR X (binaryOp .Mult) rMulS := by
  intro pins s σ H x y v u Q I rx ry h
  obtain ⟨a, k, rfl, rfl, k0, k1, ha, q⟩ := h
  obtain ⟨t, rfl⟩ := rx
  obtain ⟨t', rfl⟩ := ry
  have hm : a.length * k.toNat ≤ 1000 * 1000 := Nat.mul_le_mul ha (by omega)
  refine PySem.P.mul_str (by rw [decide_eq_false (by omega), decide_eq_false (by omega)]; rfl) (fun h1 _ => ?_) (fun h1 _ => ?_) ?_
  · have e : (1000 : Int) ≤ (2 ^ 63 - 1) / k := Int.le_ediv_of_mul_le (by omega) (by omega)
    omega
  · exact decide_eq_false (by rw [sizeLine_eq]; omega)
  · by_cases h1 : k < 1
    · rw [if_pos h1]
      have e : repS k.toNat a = Str.empty := by
        rw [show k.toNat = 0 by omega]
        rfl
      rw [e] at q
      exact ⟨by decide, ⟨.str _, H, I.tok _, ⟨_, rfl⟩, q⟩⟩
    · rw [if_neg h1]
      by_cases h2 : (k == 1 || a.length == 0) = true
      · rw [if_pos h2]
        have e : repS k.toNat a = a := by
          rcases Bool.or_eq_true_iff.mp h2 with h3 | h3
          · rw [show k.toNat = 1 by have := eq_of_beq h3; omega]
            show (⟨((List.replicate 1 a.cps.toList).flatten).toArray⟩ : Str) = a
            simp
          · have hz : a.cps.size = 0 := eq_of_beq h3
            have ez : a.cps = #[] := Array.size_eq_zero_iff.mp hz
            obtain ⟨cs⟩ := a
            dsimp only at ez
            subst ez
            show (⟨((List.replicate k.toNat []).flatten).toArray⟩ : Str) = _
            simp
        rw [e] at q
        exact ⟨.str a, H, I, ⟨_, rfl⟩, q⟩
      · rw [if_neg h2, rep_fold]
        have e : (⟨#[] ++ ((List.replicate k.toNat a.cps.toList).flatten).toArray⟩ : Str) = repS k.toNat a := by
          unfold repS
          simp
        rw [e]
        refine ⟨?_, ⟨.str _, H, I.tok _, ⟨_, rfl⟩, q⟩⟩
        rw [repS_len, Nat.mul_comm, sizeLine_eq]
        omega
end XK

/-! Data in the heap: kept, looked at, its type. -/
namespace XK
open PySem PySem.Spec PyProof.Rows L2
theorem rd_same {H H' : Hp} {a : Addr} {u : HO} (e : Same H H') (h : Rd H a u) : Rd H' a u := by
  rcases h with h | ⟨o, h⟩
  · exact Or.inl (e a _ h)
  · exact Or.inr ⟨o, e a _ h⟩
theorem sqt_same {K : PySem.W.Frag} {H H' : Hp} {a : Addr} {xs : List V} (e : Same H H') (h : SqT K H a xs) : SqT K H' a xs := by
  rcases h with h | h
  · exact Or.inl (rd_same e h)
  · exact Or.inr h
theorem same_new {H : Hp} {p : Addr} {o : HO} (h : H p = none) : Same H (upd H p o) := fun b u e => by rw [upd_ne (ne_of_none e h)]; exact e
/-- a change at p, of what was not there -/
theorem same_at {H H' : Hp} {p : Addr} {o : HO} (e : Same H H') (h : H p = none) : Same H (upd H' p o) := fun b u q => by rw [upd_ne (ne_of_none q h)]; exact e b u q
mutual
theorem Dz.same {K : PySem.W.Frag} {H H' : Hp} (e : Same H H') : ∀ {v : V} {d : PyData}, Dz K H v d → Dz K H' v d
  | _, _, .non => .non
  | _, _, .bl b => .bl b
  | _, _, .int i => .int i
  | _, _, .str x => .str x
  | _, _, .lst h a => .lst (Same.seq e h) (DzA.same e a)
  | _, _, .tup h a => .tup (sqt_same e h) (DzA.same e a)
  | _, _, .dic h => .dic (e _ _ h)
theorem DzA.same {K : PySem.W.Frag} {H H' : Hp} (e : Same H H') : ∀ {vs : List V} {ds : List PyData}, DzA K H vs ds → DzA K H' vs ds
  | _, _, .nil => .nil
  | _, _, .cons a b => .cons (Dz.same e a) (DzA.same e b)
end
theorem DzA.len {K : PySem.W.Frag} {H : Hp} : ∀ {vs : List V} {ds : List PyData}, DzA K H vs ds → vs.length = ds.length
  | _, _, .nil => rfl
  | _, _, .cons _ b => by rw [List.length_cons, List.length_cons, DzA.len b]
theorem DzA.get {K : PySem.W.Frag} {H : Hp} : ∀ {vs : List V} {ds : List PyData} {i : Nat} {d : PyData}, DzA K H vs ds → ds[i]? = some d → ∃ v, vs[i]? = some v ∧ Dz K H v d
  | _, _, _, _, .nil, e => by simp at e
  | _, _, 0, _, .cons a _, e => by
    simp at e
    subst e
    exact ⟨_, rfl, a⟩
  | _, _, i + 1, _, .cons _ b, e => by
    obtain ⟨v, h1, h2⟩ := DzA.get b (i := i) (by simpa using e)
    exact ⟨v, by simpa using h1, h2⟩
theorem DzA.at {K : PySem.W.Frag} {H : Hp} {vs : List V} {ds : List PyData} {i : Nat} {v : V} (h : DzA K H vs ds) (e : vs[i]? = some v) : ∃ d, ds[i]? = some d ∧ Dz K H v d := by
  have hi : i < ds.length := by rw [← DzA.len h]; exact (List.getElem?_eq_some_iff.mp e).1
  obtain ⟨v', h1, h2⟩ := DzA.get h (i := i) (d := ds[i]) (by simp [hi])
  rw [h1] at e
  cases e
  exact ⟨_, by simp [hi], h2⟩
theorem DzA.snoc {K : PySem.W.Frag} {H : Hp} : ∀ {vs : List V} {ds : List PyData} {v : V} {d : PyData}, DzA K H vs ds → Dz K H v d → DzA K H (vs ++ [v]) (ds ++ [d])
  | _, _, _, _, .nil, h => .cons h .nil
  | _, _, _, _, .cons a b, h => .cons a (DzA.snoc b h)
theorem DzA.append {K : PySem.W.Frag} {H : Hp} : ∀ {vs ws : List V} {ds es : List PyData}, DzA K H vs ds → DzA K H ws es → DzA K H (vs ++ ws) (ds ++ es)
  | _, _, _, _, .nil, h => h
  | _, _, _, _, .cons a b, h => .cons a (DzA.append b h)
/-- a datum's type -/
def tyD : PyData → String
  | .none => "NoneType"
  | .bool _ => "bool"
  | .int _ => "int"
  | .str _ => "str"
  | .list _ => "list"
  | .tuple _ => "tuple"
  | .dict _ => "dict"
theorem Dz.ty {K : PySem.W.Frag} {H : Hp} {v : V} {d : PyData} (h : Dz K H v d) : TyX K H v (.type (tyD d)) := by
  cases h with
  | non => exact .base .non
  | bl b => exact .base (.bl b)
  | int i => exact .base (.int i)
  | str x => exact .base (.str x)
  | lst h _ =>
    rcases h with (h | ⟨o, h⟩) | ⟨o, its, n, hk, hc, _⟩
    · exact .base (.lst h)
    · exact .base (.frz h)
    · exact .kList hk hc
  | tup h _ =>
    rcases h with (h | ⟨o, h⟩) | ⟨o, its, n, hk, hc, _⟩
    · exact .base (.tup h)
    · exact .fTuple h
    · exact .kTuple hk hc
  | dic h => exact .base (.dK h)
/-- isinstance(x, T), x data -/
theorem n_isi {K : PySem.W.Frag} {H : Hp} {Q : VK} {v : V} {d : PyData} {T : String} {b : Bool} (h : Dz K H v d) (k : kitB (tyD d) T = some b) (q : Q (.bl b) H) : rIsi K [v, .ty T] H Q :=
  ⟨v, .ty T, _, _, b, rfl, .ty T, h.ty, kit_ty k, q⟩
theorem is_int (d : PyData) : kitB (tyD d) "int" = some (match d with | .int _ => true | .bool _ => true | _ => false) := by cases d <;> (simp only [tyD]; decide +kernel)
theorem is_bool (d : PyData) : kitB (tyD d) "bool" = some (match d with | .bool _ => true | _ => false) := by cases d <;> (simp only [tyD]; decide +kernel)
theorem is_str (d : PyData) : kitB (tyD d) "str" = some (match d with | .str _ => true | _ => false) := by cases d <;> (simp only [tyD]; decide +kernel)
theorem is_tuple (d : PyData) : kitB (tyD d) "tuple" = some (match d with | .tuple _ => true | _ => false) := by cases d <;> (simp only [tyD]; decide +kernel)
section
variable {D : Ends} {σ : L2.St} {H : Hp} {Q : VK} {K : PySem.W.Frag}
theorem n_chain {r r' : R2} {ta tb tc : TE} (h : ta σ H fun x H1 => tb σ H1 fun y H2 => r x y H2 fun z H3 => ∃ k, z = .bl k ∧ (if k = true then tc σ H3 fun w' H4 => r' y w' H4 Q else Q (.bl false) H3)) : tChain r r' ta tb tc σ H Q := h
theorem m_rz {C : Addr} {f : Str} {W : WX} {te : TE} (h : te σ H fun v H1 => ∀ d, H1 d = none → W (.ref C) (some d) σ (upd H1 d (.xd [(f, v)]))) : tRz C f W te D σ H := h
theorem n_iet {ta : TA} {R : It → Hp → Prop} (h : ta σ H fun vs H1 => ∃ a xs, vs = [.ref a] ∧ SqT K H1 a xs ∧ R (Iet K a xs) H1) : iEt K ta σ H R := h
theorem n_ies {ta : TA} {R : It → Hp → Prop} (h : ta σ H fun vs H1 => ∃ z, vs = [.str z] ∧ R (Ies z) H1) : iEs ta σ H R := h
theorem n_itup {tl : TE} {R : It → Hp → Prop} (h : tl σ H fun x H1 => ∃ a, x = .ref a ∧ (∃ xs, SqT K H1 a xs) ∧ R (Itt K a) H1) : iTup K tl σ H R := h
theorem n_ilist {tl : TE} {R : It → Hp → Prop} (h : tl σ H fun x H1 => ∃ a, x = .ref a ∧ (∃ xs, SqL K H1 a xs) ∧ R (Itl K a) H1) : iList K tl σ H R := h
theorem n_istr {te : TE} {R : It → Hp → Prop} (h : te σ H fun v H1 => ∃ x, v = .str x ∧ R (Its x) H1) : iStr te σ H R := h
theorem n_m1 {r : V → List V → Hp → VK → Prop} {to te : TE} (h : to σ H fun x H1 => (∃ a, x = .str a) ∧ te σ H1 fun y H2 => r x [y] H2 Q) : tM1 r to te σ H Q := h
theorem n_strA {z : Str} {A : Prop} (q : A) : (∃ a, V.str z = .str a) ∧ A := ⟨⟨z, rfl⟩, q⟩
theorem n_lc {wi : TI} {g : TG} {tt : TT} {te : TE} {vs : List Nat} (h : wi σ H fun J H1 => ∀ D, H1 D = none → ∃ W : Nat → Nat → Hp → Prop, (∃ m, W 0 m (upd H1 D (.lst []))) ∧ ∀ i m H, W i m H →
  (J.stop i H ∧ Q (.ref D) H) ∨ (J.go i H ∧ ∃ Nx : Hp → Prop, (∀ H', Nx H' → ∃ m', m' < m ∧ W (i + 1) m' H') ∧ ∀ x H', J.yld i H x H' → g x (wipe σ vs) H' fun σ2 H2 => wipe σ2 vs = wipe σ vs ∧ tt σ2 H2 fun b H3 =>
    if b = true then te σ2 H3 fun y H4 => ∃ acc, H4 D = some (.lst acc) ∧ acc.length < sizeLine ∧ Nx (upd H4 D (.lst (acc ++ [y]))) else Nx H3)) : tLc wi g tt te vs σ H Q := h
end
theorem n_xo {K : PySem.W.Frag} {n : Str} {te : TE} {σ : L2.St} {H : Hp} {Q : VK} (h : te σ H fun x H1 => ∃ (a C d : Addr) (fs : List (Str × V)) (v : V), x = .ref a ∧ H1 a = some (Xo a (.ref C) (some d)) ∧ H1 d = some (.xd fs) ∧ XfC K C ∧ PySem.W.findIn K (.ref C) n = some none ∧ fs.lookup n = some v ∧ Q v H1) : tXo K n te σ H Q := h
theorem n_yes {σ : L2.St} {H : Hp} {T : Bool → Hp → Prop} (q : T true H) : tYes σ H T := q
section
variable {X : Cx} {x : Str} {pos : Pos}
theorem pe_ty {T : String} (hg : Gl X x) (hm : X.mg x = none) (hv : bootBuiltins x = some (.type T)) (hn : x ≠ "__name__" := by decide) (hd : (x == ("__debug__" : Str)) = false := by decide) : PE X (.Name x pos) (tC (.ty T)) := pe_bltn hg hm hv rfl hn hd
theorem pe_gk1 {v : V} (hg : Gl X x) (h : ∃ u, X.mg x = some u ∧ RelV v u) (hd : (x == ("__debug__" : Str)) = false := by decide) : PE X (.Name x pos) (tC v) := by
  obtain ⟨u, hm, r⟩ := h
  exact pe_glob hg hm r hd
end
end XK

/-! sum of a tuple, list of a text. -/
namespace XK
open PySem PySem.Spec PyProof.Rows L2
section
variable {X : Cx}
def rSumT (K : PySem.W.Frag) : List V → Hp → VK → Prop := fun vs H Q => ∃ (a : Addr) (ns : List Int), vs = [V.ref a] ∧ SqT K H a (ns.map V.int) ∧ Q (.int ns.sum) H
theorem call_sumT (hc : X.calm = true) : CallR X (.builtin "sum") (rSumT X.K) := by
  intro pins s σ H vs us Q I r h
  obtain ⟨a, ns, rfl, hs, q⟩ := h
  obtain ⟨its, rv, hl, _⟩ := I.tuple hs
  rw [Vals.ref1 r]
  have hi := rv.ints
  obtain ⟨xs, e⟩ := hi.allInts.items
  have hn : numsOf (intItems xs).toList = ns := by rw [← e]; exact hi.numsOf
  rw [nums_intItems] at hn
  rw [e] at hl
  refine PySem.W.ktm_sumG (I.ok.hd hc) hl fun h' tk t' hk => ?_
  rw [preSum_eq, List.take_of_length_le (by simp), hn]
  exact ⟨.int _, H, I.kept hk, ⟨_, rfl⟩, q⟩
def rListS : List V → Hp → VK → Prop := fun xs H Q => ∃ z : Str, xs = [.str z] ∧ z.length ≤ sizeLine ∧ ∀ l, H l = none → Q (.ref l) (upd H l (.lst (z.cps.toList.map fun c => .str ⟨#[c]⟩)))
theorem call_listS (hc : X.calm = true) : CallR X (.type "list") rListS := by
  intro pins s σ H xs us Q I r h
  obtain ⟨z, rfl, hz, q⟩ := h
  obtain ⟨u, rfl, t, rfl⟩ := vals1 r
  refine call_list_str (I.ok.hd hc) z t (hn := hz) fun h' tk acc' c' kp e it => ?_
  refine ⟨.ref s.heap.objs.size, _, I.laid (t' := tk) kp (Nat.le_refl _) (show ObjOk X.prog X.w _ h' _ (.lst (z.cps.toList.map fun c => V.str ⟨#[c]⟩)) from ⟨by rw [List.length_map, Array.length_toList]; exact hz, acc'.toList, c', ?_, by simpa using e⟩), rfl, q _ (I.hok.fresh (Nat.le_refl _))⟩
  refine vals_of_at (by rw [List.length_map, Array.length_toList, Array.length_toList]; exact it.1.symm) fun j x u hx hu => ?_
  obtain ⟨c, tk', hc', rfl⟩ := it.2 j u (by rw [← Array.getElem?_toList]; exact hu)
  rw [List.getElem?_map, Array.getElem?_toList, hc'] at hx
  cases hx
  exact ⟨tk', rfl⟩
def rStrBN : List V → Hp → VK → Prop := fun xs H Q => (∃ b : Bool, xs = [.bl b] ∧ Q (.str (if b then "True" else "False")) H) ∨ (xs = [.non] ∧ Q (.str "None") H)
theorem call_strBN : CallR X (.type "str") rStrBN := by
  intro pins s σ H xs us Q I r h
  rcases h with ⟨b, rfl, q⟩ | ⟨rfl, q⟩
  · obtain ⟨u, rfl, rx⟩ := vals1 r
    cases rx
    exact PySem.P.str_of_bool ⟨.str _, H, I.tok _, ⟨_, rfl⟩, q⟩
  · obtain ⟨u, rfl, rx⟩ := vals1 r
    cases rx
    exact PySem.P.str_of_none ⟨.str _, H, I.tok _, ⟨_, rfl⟩, q⟩
end
end XK

/-! The end: a law whose def promises under Calm. -/
namespace XK
open PySem PySem.Spec PyProof.Rows L2
theorem callerCalm {k : Nat} (h : Room k callerA) : Calm k callerA := ⟨h, rfl⟩
/-- nothing is known but the script -/
def seenAt (a : Addr) (w : Bool) (its : List Value) (zs : List V) : Hp := fun c => if c = a ∧ w = true then some (.frz { cls := .type "list", data := .seq its.toArray } (.lst zs)) else none
theorem seen_some {a c : Addr} {w : Bool} {its : List Value} {zs : List V} {u : HO} (h : seenAt a w its zs c = some u) : c = a ∧ w = true ∧ u = .frz { cls := .type "list", data := .seq its.toArray } (.lst zs) := by
  unfold seenAt at h
  split at h
  · rename_i g
    cases h
    exact ⟨g.1, g.2, rfl⟩
  · cases h
section
variable {P : Program} {wd : World} {K : PySem.W.Frag} {mg mb : Str → Option Value} {k : Nat} {fa a : Addr} {fd : FuncData} {x : Str} {sp : Sp} {s1 : Shared} {its : List Value} {zs : List Int}
theorem law_g (inK : K.In s1.heap) (n1 : s1.heap.Ns mainGlobals mg) (n2 : s1.heap.Ns builtinsNs mb) (bb : ∀ y : Str, y ≠ "__name__" → mb y = bootBuiltins y) (nl : s1.heap.NoLimit) (ng : s1.gens = #[])
    (at1 : s1.heap.get? a = some { cls := .type "list", data := .seq its.toArray }) (hin : IntsAre its zs) (few : zs.length ≤ sizeLine) (room : Room k callerA)
    (F : ∀ base : Heap, K.In base → base.Ns mainGlobals mg → FnG P wd K mg base k fa fd [x] sp) (bd : ∀ (s : Shared) (u : Value), BindsTo s fd ⟨[u], []⟩ [(x, u)])
    (ask : ∀ H : Hp, SqL K H a (zs.map V.int) → sp [.ref a] H (fun v _ => v = .bl true) E0) :
    codeAny (model P wd) callerA (.call (.ref fa) ⟨[.ref a], []⟩) (fun r s2 => r = .ok (.ret (.bool true)) ∧ OldK s1.heap s2.heap ∧ s2.os = s1.os ∧ AllBare s2.gens) s1 := by
  have rel := vals_ints hin
  have same := hin.length
  obtain ⟨b, hb1, hb2⟩ : ∃ b : Bool, (b = true → K.lookup a = none) ∧ (b = false → ∃ o, K.lookup a = some o) := by
    cases q : K.lookup a with
    | none => exact ⟨true, fun _ => rfl, fun z => (by cases z)⟩
    | some o => exact ⟨false, fun z => (by cases z), fun _ => ⟨o, rfl⟩⟩
  have hidden : ∀ {c : Addr} {o : Obj}, s1.heap.get? c = some o → seenAt a b its (zs.map V.int) c = none → (hidT s1.heap (seenAt a b its (zs.map V.int))).get? c = some o := fun h1 h2 => hidT_get h1 h2
  have dicts : ∀ {c : Addr} {o : Obj} {es : Array DictEntry} {n : Nat}, s1.heap.get? c = some o → o.data = .dict es n → seenAt a b its (zs.map V.int) c = none := fun {c o es n} h1 h2 => by
    cases q : seenAt a b its (zs.map V.int) c with
    | none => rfl
    | some u =>
      obtain ⟨rfl, _, _⟩ := seen_some q
      rw [at1] at h1
      cases h1
      cases h2
  have keepNs : ∀ {c : Addr} {m : Str → Option Value}, s1.heap.Ns c m → (hidT s1.heap (seenAt a b its (zs.map V.int))).Ns c m := fun ⟨o, es, ep, h1, h2, h3⟩ => ⟨o, es, ep, hidden h1 (dicts h1 h2), h2, h3⟩
  have inB : K.In (hidT s1.heap (seenAt a b its (zs.map V.int))) := fun c o h => hidden (inK c o h) (by
    cases q : seenAt a b its (zs.map V.int) c with
    | none => rfl
    | some u =>
      obtain ⟨rfl, hw, _⟩ := seen_some q
      rw [hb1 hw] at h
      cases h)
  have okH : HOk P wd (seenAt a b its (zs.map V.int)) s1.heap := fun c u h => by
    obtain ⟨rfl, _, rfl⟩ := seen_some h
    exact ⟨at1, by rw [List.length_map]; exact few, its, _, rel, at1⟩
  have sq : SqL K (seenAt a b its (zs.map V.int)) a (zs.map V.int) := by
    cases b with
    | true => exact .inl (.inr ⟨_, if_pos ⟨rfl, rfl⟩⟩)
    | false =>
      obtain ⟨o, ho⟩ := hb2 rfl
      have h2 := inK a o ho
      rw [at1] at h2
      cases h2
      exact .inr ⟨_, its.toArray, _, ho, rfl, rfl, rfl, by rw [List.size_toArray, same]; exact few, by simpa using rel⟩
  have md : Mod K mg (hidT s1.heap (seenAt a b its (zs.map V.int))) := ⟨inB, keepNs n1, ⟨mb, keepNs n2, bb⟩, let ⟨mc, h1, h2⟩ := nl; ⟨mc, keepNs h1, h2⟩⟩
  have env : Env0 P wd K mg (hidT s1.heap (seenAt a b its (zs.map V.int))) callerA [] s1 (seenAt a b its (zs.map V.int)) :=
    ⟨rfl, md, fun c o h => of_hidT h, Nat.le_of_eq (hidT_size _ _), trivial, fun c hc => absurd (show c ∈ ([] : List Addr) from hc) (by simp), okH, .of_eq ng⟩
  refine codeAny_mono ((F _ inB (keepNs n1)).go callerA [] s1 _ ⟨[.ref a], []⟩ [.ref a] [.ref a] _ _ (callerCalm room) env (bd s1 (.ref a)) (.cons rfl .nil) (ask _ sq)) fun r s2 hq => ?_
  match r, hq with
  | .error e, hq =>
    obtain ⟨_, _, _, _, _, _, _, _, _, _, _, _, z⟩ := hq
    exact z.elim
  | .ok (.ret u), ⟨v, H2, os, bare, un, ok2, rv, q⟩ =>
    have q1 : v = .bl true := q
    subst q1
    obtain rfl : u = Value.bool true := rv
    refine ⟨rfl, OldK.of_keep fun c o h => ?_, os, bare⟩
    cases q2 : seenAt a b its (zs.map V.int) c with
    | none => exact un.keep c o h q2 (fun z => absurd (show c ∈ ([] : List Addr) from z) (by simp)) (by simp)
    | some u2 =>
      obtain ⟨rfl, _, rfl⟩ := seen_some q2
      obtain ⟨e1, _⟩ := ok2 c _ (un.frzs c _ _ q2)
      rw [at1] at h
      cases h
      exact e1
end
/-- what k_head leaves, from such a law -/
theorem walk_g {l : PySem.W.OpenLaw} {n k : Nat} {q : Program} {loose : List Str} {XP : (Str → Option Value) → Heap → Prop} {YP : World → Heap → Prop} {d : DefRec} {Kf : Params → PySem.W.Frag} {sp : PySem.W.Frag → Sp} {x : Str}
    (h1 : l.most = some n) (h2 : n ≤ sizeLine) (h3 : d.params.defaults = []) (h4 : Room k callerA) (hY : ∀ (wd : World) (h : Heap), YP wd h → (Kf wd.params).In h)
    (F : ∀ (wd : World) (mg : Str → Option Value) (fa : Addr) (h : Heap), (Kf wd.params).In h → h.Ns mainGlobals mg → mg d.name = some (.ref fa) →
      ∃ fd : FuncData, (∀ (s : Shared) (u : Value), BindsTo s fd ⟨[u], []⟩ [(x, u)]) ∧ ∀ base : Heap, (Kf wd.params).In base → base.Ns mainGlobals mg → FnG l.prog wd (Kf wd.params) mg base k fa fd [x] (sp (Kf wd.params)))
    (ask : ∀ (K : PySem.W.Frag) (H : Hp) (a : Addr) (zs : List Int), zs.length ≤ n → SqL K H a (zs.map V.int) → sp K [.ref a] H (fun v _ => v = .bl true) E0) :
    PySem.W.WalkO q loose XP YP l.row.toRowW d [] (fun f vs => PySem.call f vs) := by
  refine Att.attach_call h1 h3 fun wd s0 s1 mg mb fa o pm cd doc a its zs G Y ho hd hcd hmg hobj hints hlen hg => ?_
  obtain ⟨fd, hb, hF⟩ := F wd mg fa _ (hY wd _ Y) G.T.g hmg
  exact law_g (hY wd _ Y) G.T.g G.T.b G.T.builtins G.T.nolimit hg hobj hints (Nat.le_trans hlen h2) h4 hF hb fun H hS => ask _ H a zs hlen hS
end XK

/-! What the top has written, in packs. -/
namespace XK
open PySem PySem.Spec PyProof.Rows L2
/-- a def of the top -/
def Dn (K : PySem.W.Frag) (x : Str) (st : Stmt) : Prop := ∃ (f : Addr) (fd : FuncData), PySem.W.nsIn K mainGlobals x = some (some (.ref f)) ∧ Fun K x x st f fd
section
variable {K : PySem.W.Frag} {x q : Str} {st : Stmt}
theorem Dn.mk {f : Addr} {oc : Value} {od an : Option Addr} {osl : Array (Option Value)} {kV doc pm cdv ct : Value} (a : PySem.W.nsIn K mainGlobals x = some (some (.ref f)))
    (l : K.lookup f = some ⟨oc, od, .func (PySem.W.fnOf x x (defArgs st) (defBody st) (defScope st) .none kV doc pm an cdv ct), osl⟩) (c : PySem.W.codeIn K cdv x = true) (k : PySem.W.keepIn K (.ref f) = true) : Dn K x st := ⟨_, _, a, fun_mk l c k⟩
/-- an own error class of one field, its __init__ st -/
def En (K : PySem.W.Frag) (x q f : Str) (st : Stmt) (C : Addr) : Prop := ∃ (fI : Addr) (fd : FuncData), (∀ mg : Str → Option Value, mg x = some (.ref C) → Ec K mg x C fI f) ∧ Fun K "__init__" q st fI fd
theorem refs_own {c1 : Addr} : PySem.HandSPX.refsVE [.ref c1, .type "ValueError", .type "Exception", .type "BaseException", .type "object"] = true := rfl
theorem En.mk {f : Str} {C c1 fI : Addr} {nm qn : Str} {N : Addr} {bs : List Value} {sn : List Str} {sub : List Value} {ab : Bool} {col : Option Bool} {dd : Option Addr} {m0 m1 m2 m3 m5 : Option Value}
    {oc : Value} {od an : Option Addr} {osl : Array (Option Value)} {kV doc pm cdv ct : Value}
    (xL : K.lookup C = some (excClassObj nm qn C N bs [.ref c1, .type "ValueError", .type "Exception", .type "BaseException", .type "object"] true sn sub ab col dd m0 m1 m2 m3 m5 "ValueError.__new__"))
    (sa : PySem.W.findIn K (.ref C) "__setattr__" = some (some (.builtin "object.__setattr__"))) (exC : PySem.W.subIn K (.ref C) (.type "BaseException") = some true) (tyC : PySem.W.typeIn K (.ref C) = some (.type "type")) (kC : PySem.W.keepIn K (.ref C) = true)
    (iC : PySem.W.findIn K (.ref C) "__init__" = some (some (.ref fI))) (tI : PySem.W.typeIn K (.ref fI) = some (.type "function")) (nf : PySem.W.findIn K (.ref C) f = some none)
    (ga : PySem.W.findIn K (.ref C) "__getattribute__" = some (some (.builtin "BaseException.__getattribute__"))) (gg : PySem.W.findIn K (.ref C) "__getattr__" = some none) (hd : PySem.W.hasDictIn K C = true)
    (cl : PySem.W.findIn K (.ref C) "__class__" = some (some (.builtin "object.__class__"))) (sg : PySem.W.specialIn K (.builtin "object.__class__") "__get__" = some (some (.builtin "getset_descriptor.__get__"))) (tk : PySem.W.takesIn K (.builtin "object.__class__") = some true) (mo : PySem.W.mroIn K C (.type "object") = some true)
    (l : K.lookup fI = some ⟨oc, od, .func (PySem.W.fnOf "__init__" q (defArgs st) (defBody st) (defScope st) .none kV doc pm an cdv ct), osl⟩) (c : PySem.W.codeIn K cdv q = true) (k : PySem.W.keepIn K (.ref fI) = true) : En K x q f st C :=
  ⟨_, _, fun mg g => ⟨g, ⟨⟨nm, qn, N, bs, _, sn, sub, ab, col, dd, m0, m1, m2, m3, m5, xL, refs_own⟩, sa, exC, tyC, kC⟩, iC, tI, nf, ⟨ga, gg, exC, hd⟩, ⟨ga, gg, exC, hd, cl, sg, tk, mo⟩⟩, fun_mk l c k⟩
/-- a class as an except clause and isinstance see it -/
structure Cl (K : PySem.W.Frag) (c : Addr) : Prop where
  ex : PySem.W.subIn K (.ref c) (.type "BaseException") = some true
  is : PySem.W.isClsIn K c = true
  ty : PySem.W.typeIn K (.ref c) = some (.type "type")
theorem Cl.kit {c : Addr} {t : Value} {b : Bool} (h : Cl K c) (s : PySem.W.subIn K t (.ref c) = some b) : PySem.W.kitCls K t (.ref c) = some b := by
  have e : ((PySem.W.clsIn K c).isSome && PySem.W.typeIn K (.ref c) == some (.type "type")) = true := by
    have h2 : (PySem.W.clsIn K c).isSome = true := h.is
    rw [h2, h.ty]
    rfl
  show (if _ = true then _ else none) = _
  rw [if_pos e, s]
theorem Cl.exm {c : Addr} {t : Value} {b : Bool} (h : Cl K c) (s : PySem.W.subIn K t (.ref c) = some b) : PySem.W.exmOne K t (.ref c) = some b := by
  have e : (PySem.W.subIn K (.ref c) (.type "BaseException") == some true) = true := by rw [h.ex]; rfl
  show (if _ = true then _ else none) = _
  rw [if_pos e, h.kit s]
theorem exm3 {t : Value} {c1 c2 c3 : Addr} {b1 b2 b3 : Bool} (h1 : Cl K c1) (h2 : Cl K c2) (h3 : Cl K c3) (s1 : PySem.W.subIn K t (.ref c1) = some b1) (s2 : PySem.W.subIn K t (.ref c2) = some b2) (s3 : PySem.W.subIn K t (.ref c3) = some b3) :
    PySem.W.exmAny K t [.ref c1, .ref c2, .ref c3] = some (b1 || (b2 || (b3 || false))) := by
  unfold PySem.W.exmAny
  rw [h1.exm s1]
  unfold PySem.W.exmAny
  rw [h2.exm s2]
  unfold PySem.W.exmAny
  rw [h3.exm s3]
  rfl
theorem kit_self {c : Addr} : PySem.W.kitOne K (.ref c) (.ref c) = some true := if_pos (beq_self_eq_true _)
theorem kit_no {c d : Addr} (h : Cl K d) (s : PySem.W.subIn K (.ref c) (.ref d) = some false) (ss : PySem.W.subIn K (.ref d) (.ref d) = some true) : PySem.W.kitOne K (.ref c) (.ref d) = some false := by
  have ne : ((Value.ref c) == (Value.ref d)) = false := by
    cases e : ((Value.ref c) == (Value.ref d)) with
    | false => rfl
    | true =>
      have e2 : Value.ref c = Value.ref d := eq_of_beq e
      rw [e2, ss] at s
      cases s
  unfold PySem.W.kitOne
  rw [ne, if_neg (by decide), h.kit s]
end
/-- line, roster: the last written first in the def's order -/
def swap2 {α : Type} (us ws : List α) : List α := us ++ ws.reverse
end XK

/-! a text against an empty dict. -/
namespace PySem
open PySem.Spec
theorem xk_str_dict1 (b : Str) (u : Tok) (l : Addr) (es : Array DictEntry) (n : Nat) (dd : Option Addr) (sl : Array (Option Value)) :
    Meets (Builtin.«str.__eq__» ⟨[.str b u, .ref l], []⟩) (fun _ R s => s.heap.get? l = some { cls := .type "dict", dict := dd, data := .dict es n, slots := sl } ∧ R (.ok (.ret .notImplemented)) s) :=
  .of_wp fun prog w A R s h => by
    obtain ⟨hp, g, d, tk, os⟩ := s
    obtain ⟨hl, h⟩ := h
    wp_walk using wpAny_loadPart' hl, wpAny_load hl
    exact ⟨_, rfl, h⟩
theorem xk_str_dict2 (b : Str) (u : Tok) (l : Addr) (es : Array DictEntry) (n : Nat) (dd : Option Addr) (sl : Array (Option Value)) :
    Meets (Builtin.«dict.__eq__» ⟨[.ref l, .str b u], []⟩) (fun _ R s => s.heap.get? l = some { cls := .type "dict", dict := dd, data := .dict es n, slots := sl } ∧ R (.ok (.ret .notImplemented)) s) :=
  .of_wp fun prog w A R s h => by
    obtain ⟨hp, g, d, tk, os⟩ := s
    obtain ⟨hl, h⟩ := h
    have f1 := F.sub_str_dict
    wp_walk using wpAny_loadPart' hl, wpAny_load hl
    exact ⟨_, rfl, h⟩
end PySem
namespace XK
open PySem PySem.Spec PyProof.Rows L2
section
variable {prog : Program} {w : World} {A : Around} {E : Value → Shared → Prop} {s : Shared}
theorem applied_m1 {sl : Addr} {vl vu vs : Value} {n : Nat} {Q : Int × Int × Nat → Shared → Prop} (hs : s.heap.IsSliceOf sl vl vu vs) (pl : IsPart vl none) (pu : IsPart vu none) (ps : IsPart vs (some (-1)))
    (h : Q ((n : Int) - 1, -1, n) s) : wpAny (model prog w) A (Builtin.Slice.sliceApplied (.ref sl) (pure (n : Int))) Q E s := by
  obtain ⟨os, hos, hcs, hds⟩ := id hs
  unfold Builtin.Slice.sliceApplied Builtin.Slice.sliceFields
  refine wpAny_bind (wpAny_bind (wpAny_field hos hds (x := vl) rfl (wpAny_bind (wpAny_field hos hds (x := vu) rfl (wpAny_bind (wpAny_field hos hds (x := vs) rfl (wpAny_pure ?_)))))))
  refine wpAny_bind (HT.slicePart_ ps ?_)
  show wpAny _ _ (if ((-1 : Int) == 0) = true then _ else _) _ _ s
  rw [if_neg (by decide)]
  refine wpAny_bind (HT.slicePart_ pl (wpAny_bind (HT.slicePart_ pu (wpAny_bind (wpAny_pure ?_)))))
  show wpAny _ _ (match Builtin.Slice.sliceAdjust none none (-1) (n : Int) with | (lo, hi) => pure (lo, (-1 : Int), Builtin.Slice.slicePlaces lo hi (-1))) _ _ s
  have e1 : Builtin.Slice.sliceAdjust none none (-1) (n : Int) = ((n : Int) - 1, -1) := by
    first | rfl | simp [Builtin.Slice.sliceAdjust]
  have e2 : Builtin.Slice.slicePlaces ((n : Int) - 1) (-1) (-1) = n := by
    unfold Builtin.Slice.slicePlaces
    simp
    omega
  rw [e1]
  show wpAny _ _ (pure ((n : Int) - 1, (-1 : Int), Builtin.Slice.slicePlaces ((n : Int) - 1) (-1) (-1))) _ _ s
  rw [e2]
  exact wpAny_pure h
end
end XK
--CUT
namespace XK
open PySem PySem.Spec PyProof.Rows L2
section
variable {prog : Program} {w : World} {A : Around} {E : Value → Shared → Prop} {s : Shared}
theorem fm_congr {α β : Type} {f g : α → Option β} : ∀ {l : List α}, (∀ x ∈ l, f x = g x) → l.filterMap f = l.filterMap g
  | [], _ => rfl
  | x :: r, h => by
    rw [List.filterMap_cons, List.filterMap_cons, h x List.mem_cons_self, fm_congr fun y hy => h y (List.mem_cons_of_mem _ hy)]
theorem pick_m1 (xs : Array Value) : ((List.range xs.size).filterMap fun (m : Nat) => xs[(((xs.size : Nat) : Int) - 1 + (m : Int) * (-1)).toNat]?).toArray = xs.toList.reverse.toArray := by
  have h1 : (List.range xs.size).filterMap (fun (m : Nat) => xs[(((xs.size : Nat) : Int) - 1 + (m : Int) * (-1)).toNat]?) = ((List.range xs.size).map fun k => xs.size - 1 - k).filterMap (xs[·]?) := by
    rw [List.filterMap_map]
    refine fm_congr fun m hm => ?_
    have hm' := List.mem_range.mp hm
    show xs[_]? = xs[xs.size - 1 - m]?
    congr 1
    omega
  rw [h1, PySem.W.krv_range, List.filterMap_reverse, PySem.W.krv_all]
theorem getItem_rev {t sl : Addr} {items : Array Value} {vl vu vs : Value} {Q : Value → Shared → Prop} (ht : IsTup s.heap t items) (hs : s.heap.IsSliceOf sl vl vu vs) (pl : IsPart vl none) (pu : IsPart vu none) (ps : IsPart vs (some (-1)))
    (h : Q (.ref s.heap.objs.size) { s with heap := s.heap.push { cls := .type "tuple", data := .seq items.toList.reverse.toArray } }) (hz : items.size ≤ sizeLine) : wpAny (model prog w) A (getItem (.ref t) (.ref sl)) Q E s := by
  have hrev : sizeOk (.seq items.toList.reverse.toArray) := by
    show items.toList.reverse.toArray.size ≤ sizeLine
    rw [List.size_toArray, List.length_reverse, Array.length_toList]
    exact hz
  obtain ⟨ob, hob, hcs, hds⟩ := id hs
  have tyS : s.TypeIs (.ref sl) "slice" := ⟨ob, hob, hcs⟩
  unfold getItem
  try with_reducible refine wpAny_holding ?_
  first | refine wpAny_bind (wpAny_pure ?_) | skip
  refine wpAny_bind (wpAny_sequenceKey ht.typeIs (by decide) ?_)
  refine wpAny_bind (wpAny_callSpecial?_slot (name := Str.ofString "__getitem__") ht.typeIs PyProof.Rows.slot_tuple_getitem (wpAny_call_entry PyProof.Rows.slot_tuple_getitem ht.typeIs entry_tuple_getitem ?_ (args_tuple_getitem _ _)))
  show wpAny _ _ (Builtin.Tuple.tupleItemsOf (.ref t) >>= _) _ _ s
  refine wpAny_bind (tupleItemsOf_ ht (wpAny_bind (wpAny_typeOf tyS ?_)))
  rw [if_pos (by decide)]
  refine wpAny_bind (applied_m1 hs pl pu ps ?_)
  show wpAny _ _ (if (((items.size : Nat) : Int) - 1 == 0 && (-1 : Int) == 1 && items.size == items.size) = true then _ else _) _ _ s
  have no : ¬ ((((items.size : Nat) : Int) - 1 == 0 && (-1 : Int) == 1 && items.size == items.size) = true) := by
    rw [show ((-1 : Int) == 1) = false from rfl, Bool.and_false, Bool.false_and]
    decide
  rw [if_neg no, pick_m1]
  first
    | exact wpAny_bind (m := Builtin.Tuple.tupleExact _) (wpAny_newObj_type (wpAny_pure ⟨_, rfl, wpAny_pure h⟩) hrev)
    | exact wpAny_bind (m := Builtin.Tuple.tupleExact _) (wpAny_newObj_type (wpAny_bind (wpAny_pure (wpAny_pure ⟨_, rfl, wpAny_pure h⟩))) hrev)
    | exact wpAny_bind (wpAny_bind (m := Builtin.Tuple.tupleExact _) (wpAny_newObj_type (wpAny_pure (wpAny_pure ⟨_, rfl, wpAny_pure h⟩)) hrev))
    | exact wpAny_bind (wpAny_bind (m := Builtin.Tuple.tupleExact _) (wpAny_newObj_type (wpAny_pure ⟨_, rfl, wpAny_pure h⟩) hrev))
end
section
variable {X : Cx}
/-- t[::-1] -/
def tRevT (K : PySem.W.Frag) (te : TE) : TE := fun σ H Q => te σ H fun x H1 => ∃ a xs, x = .ref a ∧ SqT K H1 a xs ∧ ∀ p, H1 p = none → Q (.ref p) (upd H1 p (.tup xs.reverse))
theorem pe_revT {e : Expr} {te : TE} {k : Nat} {p1 p2 p3 pos : Pos} (he : PE X e te) : PE X (.Subscript e (.Slice none none (some (.UnaryOp .USub (.Constant (.int 1) k p1) p2)) p3) pos) (tRevT X.K te) := by
  refine ⟨fun pins s σ H Q I h => Subscript_ (thn (he.run pins s σ H _ I h) fun v s1 ⟨x, H1, I1, r1, a, xs, ex, hx, q⟩ => ?_)⟩
  subst ex
  cases r1
  have step : PO X (some (.UnaryOp .USub (.Constant (.int 1) k p1) p2)) (tPart (tUn (rU fun i => .int (-i)) (tC (.int 1)))) := po_some (pe_un un_neg pe_int)
  refine wpAny_Slice (thn (po_none.run pins s1 σ H1 (fun o H2 => o = none ∧ H2 = H1) I1 ⟨rfl, rfl⟩) fun vl s2 ⟨l, H2, I2, pl, el, e2⟩ => ?_)
  subst el e2
  refine thn (po_none.run pins s2 σ H2 (fun o H3 => o = none ∧ H3 = H2) I2 ⟨rfl, rfl⟩) fun vu s3 ⟨u, H3, I3, pu, eu, e3⟩ => ?_
  subst eu e3
  refine thn (step.run pins s3 σ H3 (fun o H4 => o = some (-1) ∧ H4 = H3) I3 ⟨1, rfl, -1, rfl, rfl, rfl⟩) fun vs s4 ⟨o, H4, I4, pst, eo, e4⟩ => ?_
  subst eo e4
  have I5 : Inv X pins σ H4 { s4 with heap := s4.heap.push { cls := .type "slice", data := .fields #[vl, vu, vs] } } := I4.kept (t' := s4.toks) fun b ob q => Heap.get?_push_of_some _ q
  obtain ⟨its, r, ht, hz⟩ := I5.tuple hx
  have hlen := r.length
  show wpAny (model X.prog X.w) X.A (subscriptTail e (.Slice none none (some (.UnaryOp .USub (.Constant (.int 1) k p1) p2)) p3) (.ref a) (.ref s4.heap.objs.size)) (EP X pins σ Q) X.xe { s4 with heap := s4.heap.push { cls := .type "slice", data := .fields #[vl, vu, vs] } }
  refine tail_any (ops := [.ref a, .ref s4.heap.objs.size]) ht.typeIs (PyProof.Rows.slot_tuple_getitem.lookup) ?_ (by with_unfolding_all rfl)
  refine getItem_rev ht (Heap.IsSliceOf.new _ vl vu vs) pl pu pst ?_ (by rw [List.size_toArray]; omega)
  refine ⟨.ref _, _, I5.laid (t' := s4.toks) (o := .tup xs.reverse) (fun b ob q => Heap.get?_push_of_some _ q) (Nat.le_refl _) ?_, rfl, q _ (I5.hok.fresh (Nat.le_refl _))⟩
  exact ⟨by rw [List.length_reverse]; exact hz, _, r.reverse, IsTup.new _ _⟩
/-- a text == data -/
def rEqZ (K : PySem.W.Frag) : R2 := fun x y H Q => ∃ (z : Str) (d : PyData), x = .str z ∧ SeqAt.shaped (.str z) = true ∧ Dz K H y d ∧ (SeqAt.shaped d = true ∨ d = .dict []) ∧ Q (.bl (PyData.eqv (.str z) d)) H
theorem op_eqZ (hu : X.A.units + 64 < cLine) : OpR X (compareOp .Eq) (rEqZ X.K) := by
  intro pins s σ H x y v u Q I rx ry h
  obtain ⟨z, d, rfl, hz, hd, hs, q⟩ := h
  rcases hs with hs | rfl
  · obtain ⟨as, r1⟩ := Dz.reads I d y u hd ry
    obtain ⟨t, rfl⟩ := rx
    exact SeqAt.compareEq_shaped (Reads.str z t) r1 hz hs hu ⟨.bl _, H, I, rfl, q⟩
  · cases hd with
    | dic ha =>
      cases ry
      obtain ⟨t, rfl⟩ := rx
      obtain ⟨o, es, n, ho, hc, hdt, _⟩ := emptyDict I ha
      obtain ⟨cls, dd, data, sl⟩ := o
      simp only at hc hdt
      subst hc hdt
      refine SeqAt.rc_eq_decline_or (k := false) (typeIs_str s z t) ⟨_, ho, rfl⟩ (by decide) F.sub_dict_str F.slot_str_eq F.slot_dict_eq_refl
        (fun _ hq => call_meets F.slot_str_eq (typeIs_str s z t) F.entry_str_eq (F.args_str_eq_2 _ _) (xk_str_dict1 z t _ es n dd sl) ⟨ho, hq⟩)
        (fun _ hq => call_meets F.slot_dict_eq_refl ⟨_, ho, rfl⟩ F.entry_dict_eq (F.args_dict_eq_2 _ _) (xk_str_dict2 z t _ es n dd sl) ⟨ho, hq⟩)
        (fun _ hq => wpAny_of_eq (rfl : isSame (.str z t) (.ref _) = pure false) hq) (.inr (by omega)) ?_
      exact ⟨.bl _, H, I, rfl, q⟩
end
end XK

namespace My
open PySem PySem.Spec PyProof.Rows L2 XK
def top (i : Nat) : Stmt := PySem.Challenge.pw_crewstep_k01_rosters.main.body.getD i (.Pass ⟨0, 0, 0, 0⟩)
abbrev sCheckR : Stmt := top 10
abbrev sIsR : Stmt := top 11
abbrev sBadges : Stmt := top 12
abbrev sSizeOf : Stmt := top 13
abbrev sEntry : Stmt := top 14
abbrev sBadge : Stmt := top 15
abbrev sSize : Stmt := top 16
abbrev sBegin : Stmt := top 18
abbrev sMixed : Stmt := top 19
abbrev sNext : Stmt := top 20
abbrev sRoster : Stmt := top 21
abbrev sLine : Stmt := top 22
abbrev sFault : Stmt := top 23
abbrev sOdd : Stmt := top 24
abbrev sBent : Stmt := top 25
abbrev sChecked : Stmt := top 26
abbrev sSizeW : Stmt := top 27
abbrev sTold : Stmt := top 28
abbrev sLaw : Stmt := top 29

local macro_rules | `(tactic| walk_at "rn") => `(tactic| (first
  | ((with_reducible refine' n_var ?hv ?_); (case hv => exact rfl))
  | with_reducible refine n_c ?_
  | with_reducible refine n_op ?_
  | with_reducible refine n_un ?_
  | with_reducible refine n_I0 ?_
  | with_reducible refine n_U ?_
  | ((with_reducible refine n_mod ?hc ?_); (case hc => first | decide | omega))
  | ((with_reducible refine n_mul ?hc ?_); (case hc => first | (left; omega) | (right; omega)))
  | ((with_reducible refine n_div ?hc ?_); (case hc => first | decide | omega))
  | ((with_reducible refine n_pow ?hc ?_); (case hc => first | decide | omega))
  | ((with_reducible refine n_eq ?hc ?_); (case hc => exact rfl))
  | ((with_reducible refine n_ne ?hc ?_); (case hc => exact rfl))
  | with_reducible refine n_nil ?_
  | with_reducible refine n_cons ?_
  | with_reducible refine n_tup ?_
  | with_reducible refine n_lst ?_
  | with_reducible refine n_cb ?_
  | with_reducible refine n_callS ?_
  | with_reducible refine n_callGK ?_
  | with_reducible refine n_if ?_
  | with_reducible refine n_test ?_
  | with_reducible refine n_tB ?_
  | with_reducible refine n_bl ?_
  | with_reducible refine n_not ?_
  | with_reducible refine n_and ?_
  | with_reducible refine n_or ?_
  | with_reducible refine n_andV ?_
  | with_reducible refine n_orV ?_
  | with_reducible refine n_notV ?_
  | with_reducible refine n_tdg ?_
  | with_reducible refine m_seq ?_
  | with_reducible refine m_asg ?_
  | with_reducible refine m_asgG ?_
  | with_reducible refine n_gnil ?_
  | with_reducible refine n_gcons ?_
  | with_reducible refine n_sl ?_
  | with_reducible refine n_nop ?_
  | with_reducible refine n_part ?_
  | with_reducible refine n_int ?_
  | with_reducible refine m_ret ?_
  | with_reducible refine m_drop ?_
  | with_reducible refine m_next ?_
  | with_reducible refine m_if ?_
  | with_reducible refine m_dput ?_
  | with_reducible refine m_gn ?_
  | with_reducible refine m_par ?_
  | with_reducible refine n_vw ?_
  | with_reducible refine m_for ?_
  | with_reducible refine n_rng1 ?_
  | with_reducible refine n_bm ?_
  | with_reducible refine n_bm0 ?_
  | with_reducible refine n_chain ?_
  | with_reducible refine m_rz ?_
  | with_reducible refine n_iet ?_
  | with_reducible refine n_ies ?_
  | with_reducible refine n_itup ?_
  | with_reducible refine n_ilist ?_
  | with_reducible refine n_istr ?_
  | with_reducible refine n_m1 ?_
  | with_reducible refine n_strA ?_
  | with_reducible refine n_lc ?_
  | with_reducible refine n_yes ?_
  | with_reducible refine n_xo ?_
  | (with_reducible refine iteT ?_)
  | (with_reducible refine iteF ?_)))
local macro_rules | `(tactic| walk_at "run") => `(tactic| repeat (walk_at "rn"))


/-! ### the draws -/
def dkv (c : Addr) (a l u : Int) : List (Key × V) := [(Sum.inr "cells", .ref c), (Sum.inr "at", .int a), (Sum.inr "left", .int l), (Sum.inr "used", .int u)]
section
variable {c : Addr} {a l u x : Int}
theorem k1 : ¬ ((Sum.inr ("cells" : Str) : Key) = Sum.inr ("at" : Str)) := by decide +kernel
theorem k2 : ¬ ((Sum.inr ("cells" : Str) : Key) = Sum.inr ("left" : Str)) := by decide +kernel
theorem k3 : ¬ ((Sum.inr ("cells" : Str) : Key) = Sum.inr ("used" : Str)) := by decide +kernel
theorem k4 : ¬ ((Sum.inr ("at" : Str) : Key) = Sum.inr ("left" : Str)) := by decide +kernel
theorem k5 : ¬ ((Sum.inr ("at" : Str) : Key) = Sum.inr ("used" : Str)) := by decide +kernel
theorem k6 : ¬ ((Sum.inr ("left" : Str) : Key) = Sum.inr ("used" : Str)) := by decide +kernel
theorem g_cells : valV (dkv c a l u) (Sum.inr "cells" : Key) = some (.ref c) := valV_pos rfl
theorem g_at : valV (dkv c a l u) (Sum.inr "at" : Key) = some (.int a) := (valV_neg k1).trans (valV_pos rfl)
theorem g_left : valV (dkv c a l u) (Sum.inr "left" : Key) = some (.int l) := (valV_neg k2).trans ((valV_neg k4).trans (valV_pos rfl))
theorem g_used : valV (dkv c a l u) (Sum.inr "used" : Key) = some (.int u) := (valV_neg k3).trans ((valV_neg k5).trans ((valV_neg k6).trans (valV_pos rfl)))
theorem put_map {kvs : List (Key × V)} {k : Key} {v w : V} (h : valV kvs k = some w) : putK kvs k v = kvs.map fun kv => if kv.1 = k then (kv.1, v) else kv := by
  unfold putK
  rw [valV_any, h]
  rfl
theorem p_at : putK (dkv c a l u) (Sum.inr "at" : Key) (.int x) = dkv c x l u := by
  rw [put_map g_at]
  simp only [dkv, List.map_cons, List.map_nil, if_neg k1, if_neg (Ne.symm k4), if_neg (Ne.symm k5), if_true]
theorem p_left : putK (dkv c a l u) (Sum.inr "left" : Key) (.int x) = dkv c a x u := by
  rw [put_map g_left]
  simp only [dkv, List.map_cons, List.map_nil, if_neg k2, if_neg k4, if_neg (Ne.symm k6), if_true]
theorem p_used : putK (dkv c a l u) (Sum.inr "used" : Key) (.int x) = dkv c a l x := by
  rw [put_map g_used]
  simp only [dkv, List.map_cons, List.map_nil, if_neg k3, if_neg k5, if_neg k6, if_true]
end

section
variable {P : Program} {w : World} {K : PySem.W.Frag} {mg : Str → Option Value} {base : Heap}
def spMixed : Sp := fun vs H Q _ => ∃ cell k : Int, vs = [.int cell, .int k] ∧ 0 ≤ k ∧ k < 2 ^ 40 ∧ ∀ v, Q (.int v) H
theorem scM : FnScope ["cell", "k", "mixed"] ["cell", "k"] (defScope sMixed) := ⟨rfl, rfl, rfl, by decide +kernel, rfl, by decide +kernel, by decide +kernel⟩
theorem ok_mixed {f : Addr} {fd : FuncData} (F : Fun K "_law_mixed" "_law_mixed" sMixed f fd) : FnG P w K mg base 1 f fd ["cell", "k"] spMixed := by
  refine def_ok F scM (fun vs H Q E h => ?_) (fun cdv A fr s H vs Q E c h => ?_)
  · obtain ⟨_, _, rfl, _⟩ := h
    rfl
  · obtain ⟨cell, k, rfl, k0, k1, go⟩ := h
    refine ⟨_, pss_cons (ps_set (i := 2) scM.nd rfl (Or.inl rfl) (pe_op op_mod (pe_op op_add (pe_op op_add (pe_op op_add (pe_op op_mod (pv 0) pe_int) (pe_op op_mul (pe_op op_mul pe_int (pv 1)) (pv 1))) (pe_op op_mul pe_int (pv 1))) pe_int) pe_int))
      (pss_cons (ps_set (i := 2) scM.nd rfl (Or.inl rfl) (pe_op op_mod (pe_op op_mul (pe_op op_mod (pe_op op_mul (pv 2) (pv 2)) pe_int) (pv 2)) pe_int))
      (pss_one (ps_ret (pe_op op_fdiv (pe_op op_mod (pe_op op_mul (pv 2) (pe_op op_add pe_int (pe_op op_mul pe_int (pe_op op_mod (pv 1) pe_int)))) pe_int) pe_int)))), ?_⟩
    walk_at "run"
    exact go _

/-- the state of the draws, at p, after at most m of them -/
def Dr (H : Hp) (p c : Addr) (m : Nat) : Prop := ∃ (ns : List Int) (a l u : Int), H p = some (.dK (dkv c a l u)) ∧ H c = some (.lst (ns.map V.int)) ∧ 0 < ns.length ∧ ns.length ≤ 64 ∧ 0 ≤ a ∧ a ≤ m ∧ 0 ≤ l ∧ 0 ≤ u ∧ u ≤ m
/-- all but p is kept -/
def Kp (p : Addr) (H H' : Hp) : Prop := ∀ b o, b ≠ p → H b = some o → H' b = some o
theorem Kp.refl (p : Addr) (H : Hp) : Kp p H H := fun _ _ _ h => h
theorem Kp.trans {p : Addr} {H H1 H2 : Hp} (x : Kp p H H1) (y : Kp p H1 H2) : Kp p H H2 := fun b o n h => y b o n (x b o n h)
theorem Kp.upd {p : Addr} {H : Hp} {o : HO} : Kp p H (upd H p o) := fun b u n h => by rw [upd_ne n]; exact h
theorem Kp.new {p q : Addr} {H H1 : Hp} {o : HO} (x : Kp p H H1) (h : H1 q = none) (hp : ∃ u, H1 p = some u) : Kp p H (L2.upd H1 q o) := fun b u n e => by
  rw [upd_ne (ne_of_none (x b u n e) h)]
  exact x b u n e
theorem Dr.at {H H' : Hp} {p c : Addr} {m : Nat} (x : Dr H p c m) (h1 : ∀ o, H p = some o → H' p = some o) (h2 : ∀ o, H c = some o → H' c = some o) : Dr H' p c m := by
  obtain ⟨ns, a, l, u, e1, e2, r⟩ := x
  exact ⟨ns, a, l, u, h1 _ e1, h2 _ e2, r⟩
theorem Dr.ne {H : Hp} {p c : Addr} {m : Nat} (x : Dr H p c m) : c ≠ p := by
  obtain ⟨ns, a, l, u, e1, e2, r⟩ := x
  exact ne_of e2 e1 (by intro z; cases z)
theorem Dr.there {H : Hp} {p c : Addr} {m : Nat} (x : Dr H p c m) : (∃ o, H p = some o) ∧ ∃ o, H c = some o := by
  obtain ⟨ns, a, l, u, e1, e2, r⟩ := x
  exact ⟨⟨_, e1⟩, ⟨_, e2⟩⟩
theorem Dr.upd {H : Hp} {p c q : Addr} {o : HO} {m : Nat} (x : Dr H p c m) (n1 : q ≠ p) (n2 : q ≠ c) : Dr (L2.upd H q o) p c m :=
  x.at (fun u h => by rw [upd_ne (Ne.symm n1)]; exact h) (fun u h => by rw [upd_ne (Ne.symm n2)]; exact h)
theorem Dr.new {H : Hp} {p c q : Addr} {o : HO} {m : Nat} (x : Dr H p c m) (n : H q = none) : Dr (L2.upd H q o) p c m := by
  obtain ⟨⟨o1, e1⟩, ⟨o2, e2⟩⟩ := x.there
  exact x.upd (Ne.symm (ne_of_none e1 n)) (Ne.symm (ne_of_none e2 n))
theorem Dr.mono {H : Hp} {p c : Addr} {m k : Nat} (x : Dr H p c m) (h : m ≤ k) : Dr H p c k := by
  obtain ⟨ns, a, l, u, e1, e2, e3, e4, e5, e6, e7, e8, e9⟩ := x
  exact ⟨ns, a, l, u, e1, e2, e3, e4, e5, by omega, e7, e8, by omega⟩
theorem Dr.dict {H : Hp} {p c : Addr} {m : Nat} (x : Dr H p c m) : H p = some (.dK (x.choose_spec.choose_spec.choose_spec.choose |> fun u => dkv c x.choose_spec.choose x.choose_spec.choose_spec.choose u)) := x.choose_spec.choose_spec.choose_spec.choose_spec.1
structure Gb (mg : Str → Option Value) : Prop where
  len : mg "len" = none
def spBegin (K : PySem.W.Frag) : Sp := fun vs H Q _ => ∃ (a : Addr) (ns : List Int), vs = [.ref a] ∧ SqL K H a (ns.map V.int) ∧ ns.length ≤ 63 ∧ ∀ p c H', H p = none → H c = none → Dr H' p c 0 → (∀ b o, H b = some o → H' b = some o) → Q (.ref p) H'
theorem scB : FnScope ["script"] ["script"] (defScope sBegin) := ⟨rfl, rfl, rfl, by decide +kernel, rfl, by decide +kernel, by decide +kernel⟩
theorem merge_dkv {c : Addr} {a l u : Int} : mergeK [] (dkv c a l u) = dkv c a l u := merge_nil (by
  show [(Sum.inr "cells" : Key), Sum.inr "at", Sum.inr "left", Sum.inr "used"].Nodup
  decide +kernel)
theorem ok_begin {f : Addr} {fd : FuncData} (F : Fun K "_law_begin" "_law_begin" sBegin f fd) : FnG P w K mg base 1 f fd ["script"] (spBegin K) := by
  refine def_ok F scB (fun vs H Q E h => ?_) (fun cdv A fr s H vs Q E c h => ?_)
  · obtain ⟨_, _, rfl, _⟩ := h
    rfl
  · obtain ⟨a, ns, rfl, hs, hn, go⟩ := h
    refine ⟨_, pss_one (ps_ret (pe_disp (pps_cons pe_str (pe_op op_catL (pv 0) (pe_lst (pa_cons pe_int pa_nil))) (pps_cons pe_str pe_int (pps_cons pe_str pe_int (pps_cons pe_str pe_int pps_nil)))) (by rfl) (by rfl) (fun z => by cases z) (by decide))), ?_⟩
    walk_at "run"
    intro p hp
    have e1 : ∀ b o, H b = some o → upd H p (.dK []) b = some o := fun b o h => by rw [upd_ne (ne_of_none h hp)]; exact h
    have hs1 : SqL K (upd H p (.dK [])) a (ns.map V.int) := Same.seq e1 hs
    refine ⟨_, rfl, by decide, fun l hl => ?_⟩
    have npl : p ≠ l := ne_of_none upd_same hl
    have e2 : ∀ b o, upd H p (.dK []) b = some o → upd (upd H p (.dK [])) l (.lst [V.int 0]) b = some o := fun b o h => by rw [upd_ne (ne_of_none h hl)]; exact h
    refine ⟨a, l, _, _, rfl, rfl, Same.seq e2 hs1, SqL.of upd_same, by rw [List.length_map]; exact Nat.le_trans (Nat.add_le_add_right hn 1) (by decide), fun q hq => ?_⟩
    have npq : p ≠ q := ne_of_none (e2 p _ upd_same) hq
    refine ⟨by rw [upd_ne npq]; exact e2 p _ upd_same, dkv q 0 0 0, rfl, (by show 4 ≤ 15; decide), ?_⟩
    rw [merge_dkv]
    have e3 : ∀ b o, H b = some o → b ≠ p ∧ upd (upd (upd (upd H p (.dK [])) l (.lst [V.int 0])) q (.lst (ns.map V.int ++ [V.int 0]))) p (.dK (dkv q 0 0 0)) b = some o := fun b o h => by
      have h1 : b ≠ p := ne_of_none h hp
      have h2 := e2 b o (e1 b o h)
      exact ⟨h1, by rw [upd_ne h1, upd_ne (ne_of_none h2 hq)]; exact h2⟩
    refine go p q _ hp (Same.free (fun b o h => e2 b o (e1 b o h)) hq) ⟨ns ++ [0], 0, 0, 0, upd_same, ?_, by simp, by simp; omega, by decide, by decide, by decide, by decide, by decide⟩ fun b o h => (e3 b o h).2
    rw [upd_ne (Ne.symm npq), upd_same, List.map_append]
    rfl
def spNext : Sp := fun vs H Q _ => ∃ (p cc : Addr) (b : Int) (m : Nat), vs = [.ref p, .int b] ∧ Dr H p cc m ∧ m ≤ 1000000000 ∧ 0 < b ∧ b < 1073741824 ∧ ∀ v H', 0 ≤ v → v < b → Dr H' p cc (m + 1) → Kp p H H' → Q (.int v) H'
theorem scN : FnScope ["draw", "bound", "found", "cells", "cell"] ["draw", "bound"] (defScope sNext) := ⟨rfl, rfl, rfl, by decide +kernel, rfl, by decide +kernel, by decide +kernel⟩
theorem ok_next {f fM : Addr} {fd fdM : FuncData} (F : Fun K "_law_next" "_law_next" sNext f fd) (G : Gb mg) (FM : Fun K "_law_mixed" "_law_mixed" sMixed fM fdM) (mM : mg "_law_mixed" = some (.ref fM)) (bM : Binds K fdM ["cell", "k"] []) :
    FnG P w K mg base 2 f fd ["draw", "bound"] spNext := by
  have GM : FnG P w K mg base 1 fM fdM ["cell", "k"] spMixed := ok_mixed FM
  refine def_ok F scN (fun vs H Q E h => ?_) (fun cdv A fr s H vs Q E c h => ?_)
  · obtain ⟨_, _, _, _, rfl, _⟩ := h
    rfl
  · obtain ⟨p, cc, b, m, rfl, ⟨ns, a, l, u, hp, hc, n0, n1, a0, a1, l0, u0, u1⟩, hm, b0, b1, go⟩ := h
    have hu := hu_of c.room
    have npc : cc ≠ p := ne_of hc hp (by intro z; cases z)
    refine ⟨_, pss_cons (ps_if (pt_cmpR op_gt (pe_dget hu (pv 0) pe_str (fun _ _ => rfl)) pe_int (nomark _))
        (pss_cons (ps_set (i := 2) scN.nd rfl (Or.inl rfl) (pe_op op_mod (pe_dget hu (pv 0) pe_str (fun _ _ => rfl)) (pv 1)))
        (pss_cons (ps_dput hu (pv 0) pe_str (pe_op op_fdiv (pe_dget hu (pv 0) pe_str (fun _ _ => rfl)) (pv 1)) rfl)
        (pss_one (ps_ret (pv 2))))) pss_nil)
      (pss_cons (ps_set (i := 3) scN.nd rfl (Or.inl rfl) (pe_dget hu (pv 0) pe_str (fun _ _ => rfl)))
      (pss_cons (ps_set (i := 4) scN.nd rfl (Or.inl rfl) (pe_ix ix_list (pv 3) (pe_op op_mod (pe_dget hu (pv 0) pe_str (fun _ _ => rfl)) (pe_callB call_len_seq (by rfl) G.len PySem.boot_len (pa_cons (pv 3) pa_nil))) (fun _ _ => rfl)))
      (pss_cons (ps_dput hu (pv 0) pe_str (pe_op op_add (pe_dget hu (pv 0) pe_str (fun _ _ => rfl)) pe_int) rfl)
      (pss_cons (ps_if (PW.pt (pw_and (pt_cmpR op_ge (pv 4) (pe_op op_pow pe_int pe_int) (nomark _)) (pw_and1 (pt_cmpR op_le (pe_dget hu (pv 0) pe_str (fun _ _ => rfl)) (pe_callB call_len_seq (by rfl) G.len PySem.boot_len (pa_cons (pv 3) pa_nil)) (nomark _)))))
        (pss_cons (ps_dput hu (pv 0) pe_str (pe_op op_fdiv (pv 4) (pv 1)) rfl) (pss_one (ps_ret (pe_op op_mod (pv 4) (pv 1))))) pss_nil)
      (pss_cons (ps_dput hu (pv 0) pe_str (pe_op op_add (pe_dget hu (pv 0) pe_str (fun _ _ => rfl)) pe_int) rfl)
      (pss_one (ps_ret (pe_op op_mod (pe_g GM (c.mono (by decide)) rfl mM FM.kp bM quiets (pa_cons (pe_g GM (c.mono (by decide)) rfl mM FM.kp bM quiets (pa_cons (pv 4) (pa_cons (pe_dget hu (pv 0) pe_str (fun _ _ => rfl)) pa_nil))) (pa_cons (pe_dget hu (pv 0) pe_str (fun _ _ => rfl)) pa_nil))) (pv 1))))))))), ?_⟩
    walk_at "run"
    refine n_dg hp g_left ?_
    walk_at "run"
    refine n_ite (fun hl => ?_) (fun hl => ?_)
    · walk_at "run"
      refine n_dg hp g_left ?_
      walk_at "run"
      refine n_dg hp g_left ?_
      walk_at "run"
      refine n_dp hp p_left (by show 4 ≤ 1000; decide) ?_
      walk_at "run"
      refine go _ _ (Int.emod_nonneg _ (by omega)) (Int.emod_lt_of_pos _ b0) ⟨ns, a, l / b, u, upd_same, by rw [upd_ne npc]; exact hc, n0, n1, a0, by omega, Int.ediv_nonneg l0 (by omega), u0, by omega⟩ Kp.upd
    · walk_at "run"
      refine n_dg hp g_cells ?_
      walk_at "run"
      refine n_dg hp g_at ?_
      walk_at "run"
      refine ⟨_, _, rfl, Or.inl (SqL.of hc), ?_⟩
      have hlen : 0 < ((ns.map V.int).length : Int) := by rw [List.length_map]; omega
      walk_at "run"
      obtain ⟨cell, hcell⟩ := at_ints (ns := ns) (Int.emod_nonneg a (by omega)) (Int.emod_lt_of_pos a hlen)
      refine ⟨_, _, _, _, rfl, rfl, SqL.of hc, hcell, ?_⟩
      walk_at "run"
      refine n_dg hp g_at ?_
      walk_at "run"
      refine n_dp hp p_at (by show 4 ≤ 1000; decide) ?_
      have hc1 : ∀ o, upd H p o cc = some (.lst (ns.map V.int)) := fun o => by rw [upd_ne npc]; exact hc
      walk_at "run"
      refine n_ite (fun hg => ?_) (fun hg => ?_)
      · walk_at "run"
        refine n_dg upd_same g_at ?_
        walk_at "run"
        refine ⟨_, _, rfl, Or.inl (SqL.of (hc1 _)), ?_⟩
        walk_at "run"
        refine n_ite (fun hh => ?_) (fun hh => ?_)
        · walk_at "run"
          refine n_dp upd_same p_left (by show 4 ≤ 1000; decide) ?_
          walk_at "run"
          have hc0 : 0 ≤ cell := Int.le_trans (by decide : (0 : Int) ≤ 10 ^ (Int.toNat 18)) (d_true hg)
          exact go _ _ (Int.emod_nonneg _ (by omega)) (Int.emod_lt_of_pos _ b0) ⟨ns, a + 1, cell / b, u, upd_same, by rw [upd_ne npc]; exact hc1 _, n0, n1, by omega, by omega, Int.ediv_nonneg hc0 (by omega), u0, by omega⟩ (Kp.upd.trans Kp.upd)
        · walk_at "run"
          refine n_dg upd_same g_used ?_
          walk_at "run"
          refine n_dp upd_same p_used (by show 4 ≤ 1000; decide) ?_
          walk_at "run"
          refine n_dg upd_same g_at ?_
          walk_at "run"
          refine ⟨_, _, rfl, by omega, by omega, fun v1 => ?_⟩
          walk_at "run"
          refine n_dg upd_same g_used ?_
          walk_at "run"
          refine ⟨_, _, rfl, by omega, by omega, fun v2 => ?_⟩
          walk_at "run"
          exact go _ _ (Int.emod_nonneg _ (by omega)) (Int.emod_lt_of_pos _ b0) ⟨ns, a + 1, l, u + 1, upd_same, by rw [upd_ne npc]; exact hc1 _, n0, n1, by omega, by omega, l0, by omega, by omega⟩ (Kp.upd.trans Kp.upd)
      · walk_at "run"
        refine n_dg upd_same g_used ?_
        walk_at "run"
        refine n_dp upd_same p_used (by show 4 ≤ 1000; decide) ?_
        walk_at "run"
        refine n_dg upd_same g_at ?_
        walk_at "run"
        refine ⟨_, _, rfl, by omega, by omega, fun v1 => ?_⟩
        walk_at "run"
        refine n_dg upd_same g_used ?_
        walk_at "run"
        refine ⟨_, _, rfl, by omega, by omega, fun v2 => ?_⟩
        walk_at "run"
        exact go _ _ (Int.emod_nonneg _ (by omega)) (Int.emod_lt_of_pos _ b0) ⟨ns, a + 1, l, u + 1, upd_same, by rw [upd_ne npc]; exact hc1 _, n0, n1, by omega, by omega, l0, by omega, by omega⟩ (Kp.upd.trans Kp.upd)
end

/-! ### a drawn roster -/
def isR (H : Hp) (q : Addr) (r : Nat × Int) : Prop := H q = some (.tup [.str ⟨#[r.1]⟩, .int r.2])
/-- at a: the roster rs -/
def Ro (H : Hp) (a : Addr) (rs : List (Nat × Int)) : Prop := ∃ ps : List Addr, H a = some (.tup (ps.map V.ref)) ∧ Paired (isR H) ps rs
def okB (r : Nat × Int) : Prop := 97 ≤ r.1 ∧ r.1 ≤ 122 ∧ 0 ≤ r.2 ∧ r.2 ≤ 5
def okR (rs : List (Nat × Int)) : Prop := 1 ≤ rs.length ∧ rs.length ≤ 4 ∧ rs.Pairwise (fun a b => a.1 < b.1) ∧ ∀ r ∈ rs, okB r
theorem paired_map {α β : Type} {F G : α → β → Prop} {l₁ : List α} {l₂ : List β} (h : Paired F l₁ l₂) (f : ∀ a b, F a b → G a b) : Paired G l₁ l₂ := Paired.mapP h f
theorem paired_snoc {α β : Type} {F : α → β → Prop} : ∀ {l₁ : List α} {l₂ : List β} {a : α} {b : β}, Paired F l₁ l₂ → F a b → Paired F (l₁ ++ [a]) (l₂ ++ [b])
  | _, _, _, _, .nil, h => .cons h .nil
  | _, _, _, _, .cons r t, h => .cons r (paired_snoc t h)
theorem isR_keep {H H' : Hp} {p : Addr} (np : ∀ xs, H p ≠ some (.tup xs)) (k : Kp p H H') {q : Addr} {r : Nat × Int} (h : isR H q r) : isR H' q r := k q _ (fun z => np _ (z ▸ h)) h
theorem Ro.keep {H H' : Hp} {a : Addr} {rs : List (Nat × Int)} (x : Ro H a rs) (k : ∀ b xs, H b = some (.tup xs) → H' b = some (.tup xs)) : Ro H' a rs := by
  obtain ⟨ps, h, r⟩ := x
  exact ⟨ps, k _ _ h, paired_map r fun q r h => k _ _ h⟩
/-- what a Kp of a dict keeps -/
theorem Kp.tups {p : Addr} {H H' : Hp} {kvs : List (Key × V)} (k : Kp p H H') (hp : H p = some (.dK kvs)) : ∀ b xs, H b = some (.tup xs) → H' b = some (.tup xs) := fun b xs h =>
  k b _ (fun z => by rw [z, hp] at h; cases h) h
theorem Dr.tups {H H' : Hp} {p c : Addr} {m : Nat} (x : Dr H p c m) (k : Kp p H H') : ∀ b xs, H b = some (.tup xs) → H' b = some (.tup xs) := by
  obtain ⟨ns, a, l, u, e, _⟩ := x
  exact Kp.tups k e
structure Gr (mg : Str → Option Value) (fN : Addr) : Prop where
  nxt : mg "_law_next" = some (.ref fN)
  range : mg "range" = none
  tuple : mg "tuple" = none
section
variable {P : Program} {w : World} {K : PySem.W.Frag} {mg : Str → Option Value} {base : Heap}
def spRoster : Sp := fun vs H Q _ => ∃ (p cc : Addr) (m : Nat), vs = [.ref p] ∧ Dr H p cc m ∧ m ≤ 999999000 ∧ ∀ a rs H', Ro H' a rs → okR rs → H a = none → Dr H' p cc (m + 10) → Kp p H H' → Q (.ref a) H'
theorem scR : FnScope ["draw", "letters", "found", "spot", "k"] ["draw"] (defScope sRoster) := ⟨rfl, rfl, rfl, by decide +kernel, rfl, by decide +kernel, by decide +kernel⟩
def abc : Str := "abcdefghijklmnopqrstuvwxyz"
theorem abc_at : ∀ i : Nat, i < 26 → abc.cps[i]? = some (97 + i) := by decide +kernel
theorem sizes_at : ∀ i : Nat, i < 8 → ∃ k : Int, ([0, 1, 2, 2, 3, 3, 4, 5] : List Int)[i]? = some k ∧ 0 ≤ k ∧ k ≤ 5
  | 0, _ => ⟨0, rfl, by decide⟩
  | 1, _ => ⟨1, rfl, by decide⟩
  | 2, _ => ⟨2, rfl, by decide⟩
  | 3, _ => ⟨2, rfl, by decide⟩
  | 4, _ => ⟨3, rfl, by decide⟩
  | 5, _ => ⟨3, rfl, by decide⟩
  | 6, _ => ⟨4, rfl, by decide⟩
  | 7, _ => ⟨5, rfl, by decide⟩
  | n + 8, h => absurd h (by omega)
/-- the turns of the roster's loop -/
def RoT (H0 : Hp) (p cc l : Addr) (m : Nat) (i : Nat) (s : Int) (rs : List (Nat × Int)) (H : Hp) : Prop :=
  (∃ ps : List Addr, H l = some (.lst (ps.map V.ref)) ∧ Paired (isR H) ps rs) ∧ rs.length = i ∧ 0 ≤ s ∧ s ≤ 17 + 2 * i ∧ rs.Pairwise (fun a b => a.1 < b.1) ∧ (∀ r ∈ rs, okB r ∧ (r.1 : Int) < 97 + s) ∧ Dr H p cc (m + 2 + 2 * i) ∧ Kp p H0 H
theorem ok_roster {f fN : Addr} {fd fdN : FuncData} (F : Fun K "_law_roster" "_law_roster" sRoster f fd) (G : Gr mg fN) (N2 : FnG P w K mg base 2 fN fdN ["draw", "bound"] spNext) (kN : PySem.W.keepIn K (.ref fN) = true) (bN : Binds K fdN ["draw", "bound"] []) :
    FnG P w K mg base 3 f fd ["draw"] spRoster := by
  refine def_ok F scR (fun vs H Q E h => ?_) (fun cdv A fr s H vs Q E c h => ?_)
  · obtain ⟨_, _, _, rfl, _⟩ := h
    rfl
  · obtain ⟨p, cc, m, rfl, hD, hm, go⟩ := h
    have c2 : Calm 2 _ := c.mono (by decide)
    refine ⟨_, pss_cons (ps_set (i := 1) scR.nd rfl (Or.inl rfl) pe_str)
      (pss_cons (ps_par (i := 2) (j := 3) rfl scR.nd rfl rfl (by decide) rfl rfl (pa_cons (pe_lst pa_nil) (pa_cons (pe_g N2 c2 rfl G.nxt kN bN quiets (pa_cons (pv 0) (pa_cons pe_int pa_nil))) pa_nil)) (by rfl))
      (pss_cons (ps_for (passes_of rfl) rfl (pi_range1 rfl G.range (pa_cons (pe_op op_add pe_int (pe_g N2 c2 rfl G.nxt kN bN quiets (pa_cons (pv 0) (pa_cons pe_int pa_nil)))) pa_nil)) (pg_name (i := 4) scR.nd rfl (Or.inl rfl))
        (pss_cons (ps_expr (pe_bm PySem.F.plainAttrs_list PySem.F.slot_list_append PySem.F.type_list_append mt_append (pv 2)
            (pa_cons (pe_tup (pa_cons (pe_item_str (pv 1) (pv 3) (fun _ _ => rfl)) (pa_cons (pe_ix ix_list (pe_lst (pa_cons pe_int (pa_cons pe_int (pa_cons pe_int (pa_cons pe_int (pa_cons pe_int (pa_cons pe_int (pa_cons pe_int (pa_cons pe_int pa_nil)))))))))
              (pe_g N2 c2 rfl G.nxt kN bN quiets (pa_cons (pv 0) (pa_cons pe_int pa_nil))) (fun _ _ => rfl)) pa_nil))) pa_nil)))
        (pss_one (ps_set (i := 3) scR.nd rfl (Or.inl rfl) (pe_op op_add (pe_op op_add (pv 3) pe_int) (pe_g N2 c2 rfl G.nxt kN bN quiets (pa_cons (pv 0) (pa_cons pe_int pa_nil))))))))
      (pss_one (ps_ret (pe_callTy call_tuple_of (by rfl) G.tuple (by decide +kernel) (pa_cons (pv 2) pa_nil)))))), ?_⟩
    walk_at "run"
    refine ⟨by decide, fun l hl => ?_⟩
    walk_at "run"
    have kl : ∀ {o}, Kp p H (upd H l o) := fun {o} b u _ h => by rw [upd_ne (ne_of_none h hl)]; exact h
    refine ⟨p, cc, 18, m, rfl, hD.new hl, by omega, by decide, by decide, fun s0 H1 s0a s0b D1 k1 => ?_⟩
    have npl : l ≠ p := by
      obtain ⟨⟨o1, e1⟩, _⟩ := hD.there
      exact Ne.symm (ne_of_none e1 hl)
    have ncl : l ≠ cc := by
      obtain ⟨_, ⟨o1, e1⟩⟩ := hD.there
      exact Ne.symm (ne_of_none e1 hl)
    walk_at "run"
    refine ⟨p, cc, 4, m + 1, rfl, D1, by omega, by decide, by decide, fun n H2 na nb D2 k2 => ?_⟩
    walk_at "run"
    have e2 : (1 + n).toNat = n.toNat + 1 := by omega
    refine ⟨_, rfl, by omega, by omega, for_range (n := (1 + n).toNat) (fun i σ H' => ∃ (s : Int) (rs : List (Nat × Int)) (kk : Option V), σ = [some (.ref p), some (.str abc), some (.ref l), some (.int s), kk] ∧ RoT H p cc l m i s rs H')
      ⟨s0, [], none, rfl, ⟨[], k2 l _ npl (k1 l _ npl upd_same), .nil⟩, rfl, s0a, by omega, .nil, (fun r h => nomatch h), D2, (kl.trans k1).trans k2⟩ ?_ ?_⟩
    · rintro i σ H3 hi ⟨s, rs, kk, rfl, ⟨ps, h3, hr⟩, hlen, s1, s2, hpw, hall, D3, k3⟩
      walk_at "run"
      refine n_lty h3 ?_
      walk_at "run"
      refine ⟨_, s, 97 + s.toNat, rfl, rfl, s1, by omega, by show s < ((26 : Nat) : Int); omega, abc_at _ (by omega), ?_⟩
      walk_at "run"
      refine ⟨by decide, fun q hq => ?_⟩
      walk_at "run"
      refine ⟨p, cc, 8, m + 2 + 2 * i, rfl, D3.new hq, by omega, by decide, by decide, fun j H4 ja jb D4 k4 => ?_⟩
      have npq : q ≠ p := Ne.symm (ne_of_none D3.there.1.choose_spec hq)
      have nlq : l ≠ q := ne_of_none h3 hq
      obtain ⟨sz, esz, z0, z1⟩ := sizes_at j.toNat (by omega)
      walk_at "run"
      have hq4 : H4 q = some (.lst (([0, 1, 2, 2, 3, 3, 4, 5] : List Int).map V.int)) := k4 q _ npq upd_same
      refine n_ixL (SqL.of hq4) (show atI _ j = some (V.int sz) from ?_) ?_
      · obtain ⟨jn, rfl⟩ := Int.eq_ofNat_of_zero_le ja
        refine atI_nat ?_
        rw [List.getElem?_map, show ([0, 1, 2, 2, 3, 3, 4, 5] : List Int)[jn]? = some sz from esz]
        rfl
      walk_at "run"
      refine ⟨(by show 2 ≤ sizeLine; decide), fun t ht => ?_⟩
      walk_at "run"
      have hl4 : H4 l = some (.lst (ps.map V.ref)) := k4 l _ npl (by rw [upd_ne nlq]; exact h3)
      have nlt : l ≠ t := ne_of_none hl4 ht
      have plen : ps.length = i := by rw [← hlen]; exact Paired.length hr
      refine n_app (xs := ps.map V.ref) (by rw [upd_ne nlt]; exact hl4) (by rw [List.length_map]; omega) ?_
      walk_at "run"
      have npt : t ≠ p := Ne.symm (ne_of_none D4.there.1.choose_spec ht)
      have nct : t ≠ cc := Ne.symm (ne_of_none D4.there.2.choose_spec ht)
      refine ⟨p, cc, 2, m + 2 + 2 * i + 1, rfl, (D4.new ht).upd npl ncl, by omega, by decide, by decide, fun g H5 ga gb D5 k5 => ?_⟩
      walk_at "run"
      have k34 : ∀ b xs, H3 b = some (.tup xs) → H5 b = some (.tup xs) := fun b xs h => by
        have h1 : H4 b = some (.tup xs) := k4.tups (by rw [upd_ne (Ne.symm npq)]; exact D3.dict) b xs (by rw [upd_ne (ne_of_none h hq)]; exact h)
        exact (D4.new ht |>.upd npl ncl).tups k5 b xs (by rw [upd_ne (ne_of h1 hl4 (by intro z; cases z)), upd_ne (ne_of_none h1 ht)]; exact h1)
      have h5l : H5 l = some (.lst ((ps ++ [t]).map V.ref)) := k5 l _ npl (by rw [upd_same, List.map_append]; rfl)
      have h5t : H5 t = some (.tup [.str ⟨#[97 + s.toNat]⟩, .int sz]) := k5 t _ npt (by rw [upd_ne (Ne.symm nlt), upd_same])
      refine ⟨s + 1 + g, rs ++ [(97 + s.toNat, sz)], _, rfl, ⟨ps ++ [t], h5l, paired_snoc (paired_map hr fun a b h => k34 _ _ h) h5t⟩, by rw [List.length_append, hlen]; rfl, by omega, by omega, ?_, fun r hm => ?_, D5.mono (by omega), ?_⟩
      · refine List.pairwise_append.mpr ⟨hpw, List.pairwise_singleton _ _, fun a ha b hb => ?_⟩
        obtain rfl := List.mem_singleton.mp hb
        have := (hall a ha).2
        show a.1 < 97 + s.toNat
        omega
      · rcases List.mem_append.mp hm with hm | hm
        · exact ⟨(hall r hm).1, by have := (hall r hm).2; omega⟩
        · obtain rfl := List.mem_singleton.mp hm
          exact ⟨⟨by show 97 ≤ 97 + s.toNat; omega, by show 97 + s.toNat ≤ 122; omega, z0, z1⟩, by show ((97 + s.toNat : Nat) : Int) < 97 + (s + 1 + g); omega⟩
      · have e1 : Kp p H3 H4 := fun b o nb h => k4 b o nb (by rw [upd_ne (ne_of_none h hq)]; exact h)
        intro b o nb h
        have hb : b ≠ l := ne_of_none h hl
        have h4 := e1 b o nb (k3 b o nb h)
        exact k5 b o nb (by rw [upd_ne hb, upd_ne (ne_of_none h4 ht)]; exact h4)
    · rintro σ H3 ⟨s, rs, kk, rfl, ⟨ps, h3, hr⟩, hlen, s1, s2, hpw, hall, D3, k3⟩
      walk_at "run"
      refine ⟨l, _, rfl, Or.inl ⟨SqL.of h3, fun a ha => ?_⟩⟩
      have hla : l ≠ a := ne_of_none h3 ha
      refine go a rs _ ⟨ps, upd_same, paired_map hr fun x y h => by
        show upd H3 a _ x = _
        rw [upd_ne (ne_of_none h ha)]
        exact h⟩ ⟨by omega, by omega, hpw, fun r hm => (hall r hm).1⟩ ?_ ((D3.new ha).mono (by omega)) ?_
      · cases e : H a with
        | none => rfl
        | some o =>
          by_cases hap : a = p
          · rw [hap, D3.dict] at ha
            cases ha
          · rw [k3 a o hap e] at ha
            cases ha
      · intro b o nb h
        have h1 := k3 b o nb h
        rw [upd_ne (ne_of_none h1 ha)]
        exact h1
end

/-! ### a drawn line -/
def inR (rs : List (Nat × Int)) (z : Str) : Prop := ∀ c ∈ z.cps.toList, c ∈ rs.map (·.1)
structure Gl2 (mg : Str → Option Value) (fN : Addr) : Prop where
  nxt : mg "_law_next" = some (.ref fN)
  range : mg "range" = none
  len : mg "len" = none
  max : mg "max" = none
section
variable {P : Program} {w : World} {K : PySem.W.Frag} {mg : Str → Option Value} {base : Heap}
theorem Ro.at {H : Hp} {a : Addr} {rs : List (Nat × Int)} {n : Nat} {ps : List Addr} (hr : Paired (isR H) ps rs) (h : n < rs.length) : ∃ q, ps[n]? = some q ∧ isR H q rs[n] := by
  induction hr generalizing n with
  | nil => exact absurd h (Nat.not_lt_zero _)
  | cons r t ih =>
    cases n with
    | zero => exact ⟨_, rfl, r⟩
    | succ n => exact ih (by simpa using h)
def spLine : Sp := fun vs H Q _ => ∃ (p cc a : Addr) (rs : List (Nat × Int)) (m k : Nat), vs = [.ref p, .ref a, .int (k : Int)] ∧ Dr H p cc m ∧ m ≤ 999999000 ∧ Ro H a rs ∧ okR rs ∧ k ≤ 12 ∧
  ∀ z H', inR rs z → z.length ≤ k → Dr H' p cc (m + 60) → Kp p H H' → Q (.str z) H'
theorem scL2 : FnScope ["draw", "rules", "most", "found", "k", "mark", "size", "at", "part"] ["draw", "rules", "most"] (defScope sLine) := ⟨rfl, rfl, rfl, by decide +kernel, rfl, by decide +kernel, by decide +kernel⟩
theorem ok_line {f fN : Addr} {fd fdN : FuncData} (F : Fun K "_law_line" "_law_line" sLine f fd) (G : Gl2 mg fN) (N2 : FnG P w K mg base 2 fN fdN ["draw", "bound"] spNext) (kN : PySem.W.keepIn K (.ref fN) = true) (bN : Binds K fdN ["draw", "bound"] []) :
    FnG P w K mg base 3 f fd ["draw", "rules", "most"] spLine := by
  refine def_ok F scL2 (fun vs H Q E h => ?_) (fun cdv A fr s H vs Q E c h => ?_)
  · obtain ⟨_, _, _, _, _, _, rfl, _⟩ := h
    rfl
  · obtain ⟨p, cc, a, rs, m, k, rfl, hD, hm, hR, hok, hk, go⟩ := h
    have c2 : Calm 2 _ := c.mono (by decide)
    refine ⟨_, pss_cons (ps_set (i := 3) scL2.nd rfl (Or.inl rfl) pe_str)
      (pss_cons (ps_for (passes_of rfl) rfl (pi_range1 rfl G.range (pa_cons (pe_g N2 c2 rfl G.nxt kN bN quiets (pa_cons (pv 0) (pa_cons (pe_op op_add (pv 2) pe_int) pa_nil))) pa_nil)) (pg_name (i := 4) scL2.nd rfl (Or.inl rfl))
        (pss_cons (ps_asg (pe_ix ix_tup (pv 1) (pe_g N2 c2 rfl G.nxt kN bN quiets (pa_cons (pv 0) (pa_cons (pe_callB call_len_seq (by rfl) G.len PySem.boot_len (pa_cons (pv 1) pa_nil)) pa_nil))) (fun _ _ => rfl)) (pg_tup rfl (pgs_cons (pg_name (i := 5) scL2.nd rfl (Or.inl rfl)) (pgs_cons (pg_name (i := 6) scL2.nd rfl (Or.inl rfl)) pgs_nil))))
        (Evl.pss_cut (ps_set (i := 7) scL2.nd rfl (Or.inl rfl) (pe_ifExp (pt_cmpR op_eq (pe_g N2 c2 rfl G.nxt kN bN quiets (pa_cons (pv 0) (pa_cons pe_int pa_nil))) pe_int (nomark _)) (pe_callB call_len_str (by rfl) G.len PySem.boot_len (pa_cons (pv 3) pa_nil))
            (pe_g N2 c2 rfl G.nxt kN bN quiets (pa_cons (pv 0) (pa_cons (pe_op op_add (pe_callB call_len_str (by rfl) G.len PySem.boot_len (pa_cons (pv 3) pa_nil)) pe_int) pa_nil)))))
        (Evl.pss_cut (ps_set (i := 8) scL2.nd rfl (Or.inl rfl) (pe_ifExp (pt_cmpR op_gt (pe_g N2 c2 rfl G.nxt kN bN quiets (pa_cons (pv 0) (pa_cons pe_int pa_nil))) pe_int (nomark _)) (pe_op op_mulS (pv 5) (pe_callB (call_max2 rfl) (by rfl) G.max (by decide +kernel) (pa_cons pe_int (pa_cons (pv 6) pa_nil)))) (pv 5)))
        (pss_one (ps_if (pt_cmpR op_le (pe_op op_add (pe_callB call_len_str (by rfl) G.len PySem.boot_len (pa_cons (pv 3) pa_nil)) (pe_callB call_len_str (by rfl) G.len PySem.boot_len (pa_cons (pv 8) pa_nil))) (pv 2) (nomark _))
          (pss_one (ps_set (i := 3) scL2.nd rfl (Or.inl rfl) (pe_op op_add_str (pe_op op_add_str (pe_slice sl_str (pv 3) po_none (po_some (pv 7))) (pv 8)) (pe_slice sl_str (pv 3) (po_some (pv 7)) po_none)))) pss_nil))))))
      (pss_one (ps_ret (pv 3)))), ?_⟩
    walk_at "run"
    refine ⟨p, cc, _, m, rfl, hD, by omega, by omega, by omega, fun n H1 na nb D1 k1 => ?_⟩
    walk_at "run"
    have hR1 : Ro H1 a rs := hR.keep (hD.tups k1)
    refine ⟨_, rfl, by omega, by omega, for_range (n := n.toNat) (fun i σ H' => ∃ (z : Str) (x4 x5 x6 x7 x8 : Option V), σ = [some (.ref p), some (.ref a), some (.int (k : Int)), some (.str z), x4, x5, x6, x7, x8] ∧ inR rs z ∧ z.length ≤ k ∧ Dr H' p cc (m + 1 + 4 * i) ∧ Kp p H H')
      ⟨_, _, _, _, _, _, rfl, (fun c h => nomatch h), Nat.zero_le _, D1, k1⟩ ?_ ?_⟩
    · rintro i σ H3 hi ⟨z, x4, x5, x6, x7, x8, rfl, hz, hzl, D3, k3⟩
      have hR3 := hR.keep (hD.tups k3)
      obtain ⟨ps, hps, hr⟩ := hR3
      have plen : ps.length = rs.length := Paired.length hr
      have hz16 : z.length ≤ 100000 := by omega
      walk_at "run"
      refine ⟨_, _, rfl, Or.inr (SqT.of hps), ?_⟩
      walk_at "run"
      refine ⟨p, cc, _, _, rfl, D3, by omega, by rw [List.length_map, plen]; have := hok.1; omega, by rw [List.length_map, plen]; have := hok.2.1; omega, fun j H4 ja jb D4 k4 => ?_⟩
      rw [List.length_map, plen] at jb
      obtain ⟨jn, rfl⟩ := Int.eq_ofNat_of_zero_le ja
      have jlt : jn < rs.length := by omega
      obtain ⟨q, eq, hq⟩ := Ro.at (a := a) hr jlt
      have kt4 := D3.tups k4
      have hq4 : H4 q = some (.tup [.str ⟨#[rs[jn].1]⟩, .int rs[jn].2]) := kt4 _ _ hq
      have hb := hok.2.2.2 _ (List.getElem_mem jlt)
      refine n_ixT (SqT.of (kt4 _ _ hps)) (atI_nat (v := V.ref q) (by rw [List.getElem?_map, eq]; rfl)) ?_
      refine n_gtup (SqT.of hq4) rfl ?_
      walk_at "run"
      -- at = ..
      refine ⟨fun σ' H' => ∃ (t : Int), σ' = [some (.ref p), some (.ref a), some (.int (k : Int)), some (.str z), some (.int (0 + (i : Int))), some (.str ⟨#[rs[jn].1]⟩), some (.int rs[jn].2), some (.int t), x8] ∧ 0 ≤ t ∧ t ≤ z.length ∧ Dr H' p cc (m + 1 + 4 * i + 3) ∧ Kp p H H', ?_, ?_⟩
      · walk_at "run"
        refine ⟨p, cc, _, _, rfl, D4, by omega, by decide, by decide, fun v H5 va vb D5 k5 => ?_⟩
        walk_at "run"
        refine n_ite (fun hv => ?_) (fun hv => ?_)
        · walk_at "run"
          refine ⟨z, rfl, Nat.le_trans hz16 (by decide), ?_⟩
          walk_at "run"
          exact ⟨_, rfl, by omega, by omega, D5.mono (by omega), (k3.trans k4).trans k5⟩
        · walk_at "run"
          refine ⟨z, rfl, Nat.le_trans hz16 (by decide), ?_⟩
          walk_at "run"
          refine ⟨p, cc, _, _, rfl, D5, by omega, by omega, by omega, fun v2 H6 va2 vb2 D6 k6 => ?_⟩
          walk_at "run"
          exact ⟨_, rfl, va2, by omega, D6.mono (by omega), ((k3.trans k4).trans k5).trans k6⟩
      rintro σ' H6 ⟨t, rfl, t0, t1, D6, k6⟩
      -- part = ..
      refine ⟨fun σ' H' => ∃ (y : Str), σ' = [some (.ref p), some (.ref a), some (.int (k : Int)), some (.str z), some (.int (0 + (i : Int))), some (.str ⟨#[rs[jn].1]⟩), some (.int rs[jn].2), some (.int t), some (.str y)] ∧ (∀ c ∈ y.cps.toList, c = rs[jn].1) ∧ y.length ≤ 5 ∧ Dr H' p cc (m + 1 + 4 * i + 4) ∧ Kp p H H', ?_, ?_⟩
      · walk_at "run"
        refine ⟨p, cc, _, _, rfl, D6, by omega, by decide, by decide, fun v H7 va vb D7 k7 => ?_⟩
        walk_at "run"
        refine n_ite (fun hv => ?_) (fun hv => ?_)
        · walk_at "run"
          refine ⟨_, _, rfl, ?_⟩
          have b2 : (if rs[jn].2 > 1 then rs[jn].2 else 1) ≤ 5 ∧ 0 ≤ (if rs[jn].2 > 1 then rs[jn].2 else 1) := by
            have := hb.2.2.2
            split <;> omega
          refine ⟨_, _, rfl, rfl, b2.2, by omega, by show 1 ≤ 1000; decide, ?_⟩
          walk_at "run"
          refine ⟨_, rfl, fun c hc => ?_, ?_, D7.mono (by omega), k6.trans k7⟩
          · have h1 : c ∈ (List.replicate (if rs[jn].2 > 1 then rs[jn].2 else 1).toNat [rs[jn].1]).flatten := by simpa [repS] using hc
            obtain ⟨l, hl, hcl⟩ := List.mem_flatten.mp h1
            rw [List.eq_of_mem_replicate hl] at hcl
            exact List.mem_singleton.mp hcl
          · rw [repS_len]
            show _ * 1 ≤ 5
            omega
        · walk_at "run"
          exact ⟨_, rfl, fun c hc => by simpa using hc, by show 1 ≤ 5; decide, D7.mono (by omega), k6.trans k7⟩
      rintro σ' H7 ⟨y, rfl, hy, hyl, D7, k7⟩
      walk_at "run"
      refine ⟨z, rfl, Nat.le_trans hz16 (by decide), ?_⟩
      walk_at "run"
      refine ⟨y, rfl, Nat.le_trans hyl (by decide), ?_⟩
      walk_at "run"
      refine n_ite (fun hv => ?_) (fun hv => ?_)
      · walk_at "run"
        refine n_slS hz16 ?_
        walk_at "run"
        have e := cutS_len2 t0 t1
        have hle : (z.length : Int) + y.length ≤ k := d_true hv
        refine ⟨_, _, rfl, rfl, by rw [sizeLine_eq]; omega, ?_⟩
        walk_at "run"
        refine n_slS hz16 ?_
        walk_at "run"
        refine ⟨_, _, rfl, rfl, by rw [strLen_append, sizeLine_eq]; omega, ?_⟩
        walk_at "run"
        refine ⟨_, _, _, _, _, _, rfl, fun c hc => ?_, by rw [strLen_append, strLen_append]; omega, D7.mono (by omega), k7⟩
        rw [cps_toList_append, cps_toList_append, List.mem_append, List.mem_append] at hc
        rcases hc with (hc | hc) | hc
        · exact hz c (cutS_mem hc)
        · rw [hy c hc]
          exact List.mem_map_of_mem (List.getElem_mem jlt)
        · exact hz c (cutS_mem hc)
      · walk_at "run"
        exact ⟨_, _, _, _, _, _, rfl, hz, hzl, D7.mono (by omega), k7⟩
    · rintro σ H3 ⟨z, x4, x5, x6, x7, x8, rfl, hz, hzl, D3, k3⟩
      walk_at "run"
      exact go z H3 hz hzl (D3.mono (by omega)) k3
end

/-! ### rosters checked -/
def txt : PyData → Prop
  | .str x => x.length ≤ 100000
  | _ => True
def dp1 (p : PyData → Prop) : PyData → Prop
  | .tuple ds => ∀ e ∈ ds, p e
  | _ => True
def isSizeD : PyData → Bool
  | .int i => decide (0 ≤ i) && decide (i ≤ 5)
  | _ => false
def isBadgeD : PyData → Bool
  | .str x => decide ((x.length : Int) = 1) && !decide (x.cps.toList < ("a" : Str).cps.toList) && !decide (("z" : Str).cps.toList < x.cps.toList)
  | _ => false
def isEntryD : PyData → Bool
  | .tuple [a, b] => isBadgeD a && isSizeD b
  | _ => false
section
variable {P : Program} {w : World} {K : PySem.W.Frag} {mg : Str → Option Value} {base : Heap}
structure Gi (mg : Str → Option Value) : Prop where
  isi : mg "isinstance" = none
  len : mg "len" = none
  str : mg "str" = none
  int : mg "int" = none
  bool : mg "bool" = none
  tuple : mg "tuple" = none
  m4 : ∃ u, mg "MAX_BADGES" = some u ∧ RelV (.int 4) u
  m5 : ∃ u, mg "MAX_SIZE" = some u ∧ RelV (.int 5) u
def spSize (K : PySem.W.Frag) : Sp := fun vs H Q _ => ∃ v d, vs = [v] ∧ Dz K H v d ∧ Q (.bl (isSizeD d)) H
theorem scSz : FnScope ["thing"] ["thing"] (defScope sSize) := ⟨rfl, rfl, rfl, by decide +kernel, rfl, by decide +kernel, by decide +kernel⟩
theorem ok_size {f : Addr} {fd : FuncData} (F : Fun K "_is_size" "_is_size" sSize f fd) (G : Gi mg) : FnG P w K mg base 1 f fd ["thing"] (spSize K) := by
  refine def_ok F scSz (fun vs H Q E h => ?_) (fun cdv A fr s H vs Q E c h => ?_)
  · obtain ⟨_, _, rfl, _⟩ := h
    rfl
  · obtain ⟨v, d, rfl, hd, go⟩ := h
    refine ⟨_, pss_one (ps_ret (pe_and (pe_callB call_isi (by rfl) G.isi (by decide +kernel) (pa_cons (pv 0) (pa_cons (pe_ty (T := "int") rfl G.int (by decide +kernel)) pa_nil)))
      (pe_and (pe_not (pe_callB call_isi (by rfl) G.isi (by decide +kernel) (pa_cons (pv 0) (pa_cons (pe_ty (T := "bool") rfl G.bool (by decide +kernel)) pa_nil))))
      (pe_one (pe_chain op_le op_le pe_int (pv 0) (pe_gk1 rfl G.m5)))))), ?_⟩
    walk_at "run"
    refine n_isi hd (is_int d) ?_
    cases hd with
    | int i =>
      walk_at "run"
      refine n_isi (b := false) (.int i) (is_bool _) ?_
      walk_at "run"
      refine iteT ?_
      walk_at "run"
      refine n_ite (fun h0 => ?_) (fun h0 => ?_)
      · walk_at "run"
        have e : isSizeD (.int i) = decide (i ≤ 5) := by
          show (decide (0 ≤ i) && decide (i ≤ 5)) = _
          rw [h0, Bool.true_and]
        rw [e] at go
        exact go
      · have e : isSizeD (.int i) = false := by
          show (decide (0 ≤ i) && decide (i ≤ 5)) = _
          rw [h0, Bool.false_and]
        rw [e] at go
        exact go
    | bl b =>
      walk_at "run"
      refine n_isi (.bl b) (is_bool _) ?_
      walk_at "run"
      exact go
    | _ => walk_at "run"; exact go
def spBadge (K : PySem.W.Frag) : Sp := fun vs H Q _ => ∃ v d, vs = [v] ∧ Dz K H v d ∧ txt d ∧ Q (.bl (isBadgeD d)) H
theorem scBg : FnScope ["thing"] ["thing"] (defScope sBadge) := ⟨rfl, rfl, rfl, by decide +kernel, rfl, by decide +kernel, by decide +kernel⟩
theorem ok_badge {f : Addr} {fd : FuncData} (F : Fun K "_is_badge" "_is_badge" sBadge f fd) (G : Gi mg) : FnG P w K mg base 1 f fd ["thing"] (spBadge K) := by
  refine def_ok F scBg (fun vs H Q E h => ?_) (fun cdv A fr s H vs Q E c h => ?_)
  · obtain ⟨_, _, rfl, _⟩ := h
    rfl
  · obtain ⟨v, d, rfl, hd, ht, go⟩ := h
    refine ⟨_, pss_one (ps_ret (pe_and (pe_callB call_isi (by rfl) G.isi (by decide +kernel) (pa_cons (pv 0) (pa_cons (pe_ty (T := "str") rfl G.str (by decide +kernel)) pa_nil)))
      (pe_and (pe_cmpR op_eq (pe_callB call_len_str (by rfl) G.len PySem.boot_len (pa_cons (pv 0) pa_nil)) pe_int (nomark _))
      (pe_one (pe_chain op_le_str op_le_str pe_str (pv 0) pe_str))))), ?_⟩
    walk_at "run"
    refine n_isi hd (is_str d) ?_
    cases hd with
    | str x =>
      walk_at "run"
      refine ⟨x, rfl, Nat.le_trans ht (by decide), ?_⟩
      walk_at "run"
      refine n_ite (fun h0 => ?_) (fun h0 => ?_)
      · walk_at "run"
        refine ⟨_, _, rfl, rfl, ?_⟩
        walk_at "run"
        have h0' := d_true h0
        have e0 : (x.length : Int) = 1 := by simpa using h0'
        refine n_ite (fun h1 => ?_) (fun h1 => ?_)
        · walk_at "run"
          refine ⟨_, _, rfl, rfl, ?_⟩
          have e : isBadgeD (.str x) = !decide (("z" : Str).cps.toList < x.cps.toList) := by
            show (decide ((x.length : Int) = 1) && (!decide (x.cps.toList < ("a" : Str).cps.toList)) && _) = _
            rw [decide_eq_true e0, show (!decide (x.cps.toList < ("a" : Str).cps.toList)) = true from h1]
            rfl
          rw [e] at go
          exact go
        · have e : isBadgeD (.str x) = false := by
            show (decide ((x.length : Int) = 1) && (!decide (x.cps.toList < ("a" : Str).cps.toList)) && _) = _
            rw [show (!decide (x.cps.toList < ("a" : Str).cps.toList)) = false from h1, Bool.and_false, Bool.false_and]
          rw [e] at go
          exact go
      · have h0' := d_false h0
        have e0 : ¬ (x.length : Int) = 1 := by simpa using h0'
        have e : isBadgeD (.str x) = false := by
          show (decide ((x.length : Int) = 1) && (!decide (x.cps.toList < ("a" : Str).cps.toList)) && _) = _
          rw [decide_eq_false e0]
          rfl
        rw [e] at go
        exact go
    | _ => walk_at "run"; exact go
def spEntry (K : PySem.W.Frag) : Sp := fun vs H Q _ => ∃ v d, vs = [v] ∧ Dz K H v d ∧ dp1 txt d ∧ Q (.bl (isEntryD d)) H
theorem scEn : FnScope ["item"] ["item"] (defScope sEntry) := ⟨rfl, rfl, rfl, by decide +kernel, rfl, by decide +kernel, by decide +kernel⟩
theorem ok_entry {f fB fS : Addr} {fd fdB fdS : FuncData} (F : Fun K "_is_entry" "_is_entry" sEntry f fd) (G : Gi mg) (FB : Fun K "_is_badge" "_is_badge" sBadge fB fdB) (FS : Fun K "_is_size" "_is_size" sSize fS fdS)
    (mB : mg "_is_badge" = some (.ref fB)) (mS : mg "_is_size" = some (.ref fS)) (bB : Binds K fdB ["thing"] []) (bS : Binds K fdS ["thing"] []) : FnG P w K mg base 2 f fd ["item"] (spEntry K) := by
  have GB : FnG P w K mg base 1 fB fdB ["thing"] (spBadge K) := ok_badge FB G
  have GS : FnG P w K mg base 1 fS fdS ["thing"] (spSize K) := ok_size FS G
  refine def_ok F scEn (fun vs H Q E h => ?_) (fun cdv A fr s H vs Q E c h => ?_)
  · obtain ⟨_, _, rfl, _⟩ := h
    rfl
  · obtain ⟨v, d, rfl, hd, ht, go⟩ := h
    refine ⟨_, pss_one (ps_ret (pe_and (pe_callB call_isi (by rfl) G.isi (by decide +kernel) (pa_cons (pv 0) (pa_cons (pe_ty (T := "tuple") rfl G.tuple (by decide +kernel)) pa_nil)))
      (pe_and (pe_cmpR op_eq (pe_callB call_len_seq (by rfl) G.len PySem.boot_len (pa_cons (pv 0) pa_nil)) pe_int (nomark _))
      (pe_and (pe_g GB c rfl mB FB.kp bB quiets (pa_cons (pe_ix ix_tup (pv 0) pe_int (fun _ _ => rfl)) pa_nil))
      (pe_one (pe_g GS c rfl mS FS.kp bS quiets (pa_cons (pe_ix ix_tup (pv 0) pe_int (fun _ _ => rfl)) pa_nil))))))), ?_⟩
    walk_at "run"
    refine n_isi hd (is_tuple d) ?_
    cases hd with
    | tup hs ha =>
      rename_i a vs ds
      walk_at "run"
      refine ⟨_, _, rfl, Or.inr hs, ?_⟩
      walk_at "run"
      have hl := DzA.len ha
      refine n_ite (fun h0 => ?_) (fun h0 => ?_)
      · have h2 : ds.length = 2 := by
          have := d_true h0
          have e : (vs.length : Int) = 2 := by simpa using this
          omega
        cases ha with
        | nil => exact absurd h2 (by decide)
        | cons a1 r =>
        cases r with
        | nil => exact absurd h2 (by simp)
        | cons a2 r =>
        cases r with
        | cons a3 r => exact absurd h2 (by simp)
        | nil =>
          rename_i v1 d1 v2 d2
          walk_at "run"
          refine n_ixT hs (show atI [v1, v2] 0 = some v1 from rfl) ?_
          walk_at "run"
          refine ⟨_, _, rfl, a1, ht _ (by simp), ?_⟩
          walk_at "run"
          refine n_ite (fun h1 => ?_) (fun h1 => ?_)
          · walk_at "run"
            refine n_ixT hs (show atI [v1, v2] 1 = some v2 from rfl) ?_
            walk_at "run"
            refine ⟨_, _, rfl, a2, ?_⟩
            have e : isEntryD (.tuple [d1, d2]) = isSizeD d2 := by
              show (isBadgeD d1 && isSizeD d2) = _
              rw [h1, Bool.true_and]
            rw [e] at go
            exact go
          · have e : isEntryD (.tuple [d1, d2]) = false := by
              show (isBadgeD d1 && isSizeD d2) = _
              rw [h1, Bool.false_and]
            rw [e] at go
            exact go
      · have h2 : ds.length ≠ 2 := by
          have := d_false h0
          have e : ¬ (vs.length : Int) = 2 := by simpa using this
          omega
        have e : isEntryD (.tuple ds) = false := by
          match ds, h2 with
          | [], _ => rfl
          | [_], _ => rfl
          | [_, _], h => exact absurd rfl h
          | _ :: _ :: _ :: _, _ => rfl
        rw [e] at go
        exact go
    | _ => walk_at "run"; exact go
end

/-- the badge of an entry -/
def headS : PyData → List Nat
  | .tuple (.str x :: _) => x.cps.toList
  | _ => []
def goodE (b : List Nat) (d : PyData) : Bool := isEntryD d && decide (b < headS d)
def faultAt : Nat → List Nat → List PyData → Option Nat
  | _, _, [] => none
  | i, b, d :: r => if goodE b d = true then faultAt (i + 1) (headS d) r else some i
def faultD : PyData → Option V
  | .tuple ds => if (decide (1 ≤ (ds.length : Int)) && decide ((ds.length : Int) ≤ 4)) = true then (faultAt 0 [] ds).map (fun i => .int (i : Nat)) else some .non
  | _ => some .non
theorem fault_snoc : ∀ {i : Nat} {b : List Nat} {ds es : List PyData}, faultAt i b ds = none → faultAt i b (ds ++ es) = faultAt (i + ds.length) ((ds.getLast?.map headS).getD b) es
  | i, b, [], es, _ => rfl
  | i, b, d :: r, es, h => by
    have h1 : (if goodE b d = true then faultAt (i + 1) (headS d) r else some i) = none := h
    show (if goodE b d = true then faultAt (i + 1) (headS d) (r ++ es) else some i) = _
    by_cases g : goodE b d = true
    · rw [if_pos g] at h1 ⊢
      rw [fault_snoc h1]
      have e1 : i + 1 + r.length = i + (d :: r).length := by simp; omega
      rw [e1]
      congr 1
      cases r with
      | nil => rfl
      | cons x y => simp [List.getLast?_cons]
    · rw [if_neg g] at h1
      cases h1
theorem entry_shape {d : PyData} (h : isEntryD d = true) : ∃ (x : Str) (i : Int), d = .tuple [.str x, .int i] ∧ isBadgeD (.str x) = true ∧ isSizeD (.int i) = true := by
  match d, h with
  | .tuple [a, b], h =>
    have h' : (isBadgeD a && isSizeD b) = true := h
    rw [Bool.and_eq_true] at h'
    obtain ⟨h1, h2⟩ := h'
    cases a with
    | str x =>
      cases b with
      | int i => exact ⟨_, _, rfl, h1, h2⟩
      | _ => cases h2
    | _ => cases h1
def lastB (ds : List PyData) (i : Nat) : List Nat := ((ds.take i).getLast?.map headS).getD []
theorem take_snoc {α : Type} {ds : List α} {i : Nat} {d : α} (h : ds[i]? = some d) : ds.take (i + 1) = ds.take i ++ [d] := by
  rw [List.take_add_one, h]
  rfl
theorem fault_hit {ds : List PyData} {i : Nat} {d : PyData} (h : faultAt 0 [] (ds.take i) = none) (e : ds[i]? = some d) (g : goodE (lastB ds i) d = false) : faultAt 0 [] ds = some i := by
  have hi : i < ds.length := (List.getElem?_eq_some_iff.mp e).1
  have e1 : ds = ds.take i ++ d :: ds.drop (i + 1) := by
    have := (List.getElem?_eq_some_iff.mp e).2
    rw [← this, List.getElem_cons_drop, List.take_append_drop]
  rw [e1, fault_snoc h, List.length_take, Nat.min_eq_left (Nat.le_of_lt hi)]
  show (if goodE (lastB ds i) d = true then _ else some (0 + i)) = _
  rw [g, if_neg (by decide), Nat.zero_add]
theorem fault_go {ds : List PyData} {i : Nat} {d : PyData} (h : faultAt 0 [] (ds.take i) = none) (e : ds[i]? = some d) (g : goodE (lastB ds i) d = true) : faultAt 0 [] (ds.take (i + 1)) = none ∧ lastB ds (i + 1) = headS d := by
  rw [take_snoc e, fault_snoc h]
  refine ⟨?_, ?_⟩
  · show (if goodE (lastB ds i) d = true then none else _) = _
    rw [g, if_pos rfl]
  · unfold lastB
    rw [take_snoc e]
    simp
theorem not_t {b : Bool} (h : (!b) = true) : b = false := by cases b <;> first | rfl | cases h
theorem not_f {b : Bool} (h : (!b) = false) : b = true := by cases b <;> first | rfl | cases h
section
variable {P : Program} {w : World} {K : PySem.W.Frag} {mg : Str → Option Value} {base : Heap}
def spCheckR (K : PySem.W.Frag) (C : Addr) : Sp := fun vs H Q E => ∃ v d, vs = [v] ∧ Dz K H v d ∧ dp1 (dp1 txt) d ∧ match faultD d with
  | none => ∀ H', Same H H' → Q .non H'
  | some x => ∀ H' dx, Same H H' → H dx = none → H' dx = some (.xd [("entry", x)]) → E (.ref C) (some dx) H'
theorem scCr : FnScope ["roster", "before", "entry", "item"] ["roster"] (defScope sCheckR) := ⟨rfl, rfl, rfl, by decide +kernel, rfl, by decide +kernel, by decide +kernel⟩
theorem ok_checkR {f fE C fI : Addr} {fd fdE fdI : FuncData} (F : Fun K "check_roster" "check_roster" sCheckR f fd) (G : Gi mg) (Ge : mg "enumerate" = none) (NE : FnG P w K mg base 2 fE fdE ["item"] (spEntry K)) (mE : mg "_is_entry" = some (.ref fE)) (kE : PySem.W.keepIn K (.ref fE) = true) (bE : Binds K fdE ["item"] [])
    (T : Ec K mg "InvalidRoster" C fI "entry") (FI : FnOk P w K mg base (L2.CX P w) 1 fI fdI ["self", "entry"] (spIni C "entry")) (bI : Binds K fdI ["self", "entry"] []) : FnG P w K mg base 3 f fd ["roster"] (spCheckR K C) := by
  refine def_ok F scCr (fun vs H Q E h => ?_) (fun cdv A fr s H vs Q E c h => ?_)
  · obtain ⟨_, _, rfl, _⟩ := h
    rfl
  · obtain ⟨v, d, rfl, hd, ht, go⟩ := h
    refine ⟨_, pss_cons (ps_if (PW.pt (pw_or (pt_not (pt_val (pe_callB call_isi (by rfl) G.isi (by decide +kernel) (pa_cons (pv 0) (pa_cons (pe_ty (T := "tuple") rfl G.tuple (by decide +kernel)) pa_nil)))))
          (pw_or1 (pt_not (pt_chain op_le op_le pe_int (pe_callB call_len_seq (by rfl) G.len PySem.boot_len (pa_cons (pv 0) pa_nil)) (pe_gk1 rfl G.m4))))))
        (pss_one (ps_rz T FI bI c.room rfl (takes_of rfl rfl rfl rfl) pe_non rfl)) pss_nil)
      (pss_cons (ps_set (i := 1) scCr.nd rfl (Or.inl rfl) pe_str)
      (pss_one (ps_for (passes_of rfl) rfl (pi_et rfl Ge (pa_cons (pv 0) pa_nil)) (pg_tup rfl (pgs_cons (pg_name (i := 2) scCr.nd rfl (Or.inl rfl)) (pgs_cons (pg_name (i := 3) scCr.nd rfl (Or.inl rfl)) pgs_nil)))
        (pss_cons (ps_if (PW.pt (pw_or (pt_not (pt_val (pe_g NE c rfl mE kE bE quiets (pa_cons (pv 3) pa_nil)))) (pw_or1 (pt_cmpR op_le_str (pe_ix ix_tup (pv 3) pe_int (fun _ _ => rfl)) (pv 1) (nomark _)))))
            (pss_one (ps_rz T FI bI c.room rfl (takes_of rfl rfl rfl rfl) (pv 2) rfl)) pss_nil)
        (pss_one (ps_set (i := 1) scCr.nd rfl (Or.inl rfl) (pe_ix ix_tup (pv 3) pe_int (fun _ _ => rfl)))))))), ?_⟩
    walk_at "run"
    refine n_isi hd (is_tuple d) ?_
    cases hd with
    | tup hs ha =>
      rename_i a xs ds
      have hl := DzA.len ha
      have ht : ∀ e ∈ ds, dp1 txt e := ht
      walk_at "run"
      refine iteF ?_
      walk_at "run"
      refine ⟨_, _, rfl, Or.inr hs, ?_⟩
      walk_at "run"
      have bad : ∀ {k : Nat}, ∀ dx, H dx = none → (decide (1 ≤ (ds.length : Int)) && decide ((ds.length : Int) ≤ 4)) = false → E (.ref C) (some dx) (upd H dx (.xd [("entry", .non)])) := fun dx hdx hb => by
        have e : faultD (.tuple ds) = some .non := if_neg (by rw [hb]; decide)
        rw [e] at go
        exact go _ dx (same_new hdx) hdx upd_same
      refine n_ite (fun h1 => ?_) (fun h1 => ?_)
      · walk_at "run"
        refine n_ite (fun h2 => ?_) (fun h2 => ?_)
        · walk_at "run"
          exact fun dx hdx => bad (k := 0) dx hdx (by rw [← hl, h1, Bool.true_and]; exact not_t h2)
        walk_at "run"
        have ok4 : (decide (1 ≤ (ds.length : Int)) && decide ((ds.length : Int) ≤ 4)) = true := by rw [← hl, h1, Bool.true_and]; exact not_f h2
        have e : faultD (.tuple ds) = (faultAt 0 [] ds).map fun i => .int (i : Nat) := if_pos ok4
        rw [e] at go
        refine ⟨a, xs, rfl, hs, for_ix (n := xs.length) (fun i σ H' => ∃ (b : Str) (x2 x3 : Option V), σ = [some (.ref a), some (.str b), x2, x3] ∧ Same H H' ∧ faultAt 0 [] (ds.take i) = none ∧ b.cps.toList = lastB ds i)
          ⟨_, _, _, rfl, fun _ _ h => h, rfl, rfl⟩ (fun i σ H' hi ⟨_, _, _, _, hS, _⟩ => ⟨sqt_same hS hs, hi⟩) (fun σ H' ⟨_, _, _, _, hS, _⟩ => ⟨sqt_same hS hs, rfl⟩) ?_ ?_⟩
        · rintro i σ H' x H2 hi ⟨b, x2, x3, rfl, hS, hf, hb⟩ ⟨Tp, y, rfl, hT, rfl, hy⟩
          obtain ⟨di, hdi, hzi⟩ := DzA.at ha hy
          have hS2 : Same H (upd H' Tp (.tup [.int (i : Nat), y])) := fun b u q => by rw [upd_ne (ne_of_none (hS b u q) hT)]; exact hS b u q
          have hz2 := hzi.same hS2
          have hti : dp1 txt di := ht di (List.mem_of_getElem? hdi)
          have hit : ∀ (H3 : Hp) dx, Same H H3 → H3 dx = none → goodE (lastB ds i) di = false → E (.ref C) (some dx) (upd H3 dx (.xd [("entry", .int (i : Nat))])) := fun H3 dx h3 hdx hg => by
            rw [fault_hit hf hdi hg] at go
            refine go _ dx (fun b u q => by rw [upd_ne (ne_of_none (h3 b u q) hdx)]; exact h3 b u q) ?_ upd_same
            cases q : H dx with
            | none => rfl
            | some u => rw [h3 dx u q] at hdx; cases hdx
          refine n_gtup (SqT.of upd_same) rfl ?_
          walk_at "run"
          refine ⟨y, di, rfl, hz2, hti, ?_⟩
          walk_at "run"
          cases hE : isEntryD di with
          | false =>
            refine iteT ?_
            walk_at "run"
            exact fun dx hdx => hit _ dx hS2 hdx (by unfold goodE; rw [hE]; rfl)
          | true =>
            refine iteF ?_
            obtain ⟨z, n, rfl, hz, hn⟩ := entry_shape hE
            cases hz2 with
            | tup hs3 ha3 =>
            cases ha3 with
            | cons a1 r3 =>
            cases a1 with
            | str =>
            cases r3 with
            | cons a2 r4 =>
            cases r4 with
            | nil =>
            rename_i q v2
            walk_at "run"
            refine n_ixT hs3 (show atI [V.str z, v2] 0 = some (V.str z) from rfl) ?_
            walk_at "run"
            refine ⟨z, b, rfl, rfl, ?_⟩
            walk_at "run"
            refine n_ite (fun h5 => ?_) (fun h5 => ?_)
            · walk_at "run"
              exact fun dx hdx => hit _ dx hS2 hdx (by
                unfold goodE
                rw [hE, ← hb]
                exact not_t h5)
            · walk_at "run"
              refine n_ixT hs3 (show atI [V.str z, v2] 0 = some (V.str z) from rfl) ?_
              walk_at "run"
              obtain ⟨f1, f2⟩ := fault_go hf hdi (by
                unfold goodE
                rw [hE, ← hb]
                exact not_f h5)
              exact ⟨z, _, _, rfl, hS2, f1, f2.symm⟩
        · rintro σ H' ⟨b, x2, x3, rfl, hS, hf, hb⟩
          rw [hl, List.take_length] at hf
          rw [hf] at go
          exact go H' hS
      · walk_at "run"
        exact fun dx hdx => bad (k := 0) dx hdx (by rw [← hl, h1]; rfl)
    | _ =>
      walk_at "run"
      refine iteT ?_
      walk_at "run"
      exact fun dx hdx => go _ dx (same_new hdx) hdx upd_same
end

def headT : PyData → Str
  | .tuple (.str x :: _) => x
  | _ => ""
def badgesD : PyData → Str
  | .tuple ds => Txt.join "" (ds.map headT)
  | _ => ""
theorem headT_S (d : PyData) (h : isEntryD d = true) : headS d = (headT d).cps.toList := by
  obtain ⟨x, i, rfl, _⟩ := entry_shape h
  rfl
theorem badge_one {x : Str} (h : isBadgeD (.str x) = true) : x.length = 1 := by
  have h1 : (decide ((x.length : Int) = 1) && _ && _) = true := h
  rw [Bool.and_eq_true, Bool.and_eq_true] at h1
  have := d_true h1.1.1
  omega
theorem fault_all : ∀ {i : Nat} {b : List Nat} {ds : List PyData}, faultAt i b ds = none → ∀ d ∈ ds, isEntryD d = true
  | i, b, [], _, d, hd => nomatch hd
  | i, b, e :: r, h, d, hd => by
    have h1 : (if goodE b e = true then faultAt (i + 1) (headS e) r else some i) = none := h
    by_cases g : goodE b e = true
    · rw [if_pos g] at h1
      rcases List.mem_cons.mp hd with rfl | hd
      · exact ((Bool.and_eq_true _ _).mp g).1
      · exact fault_all h1 d hd
    · rw [if_neg g] at h1
      cases h1
theorem faultD_some {ds : List PyData} (h : faultD (.tuple ds) = none) : 1 ≤ ds.length ∧ ds.length ≤ 4 ∧ faultAt 0 [] ds = none := by
  have h1 : (if (decide (1 ≤ (ds.length : Int)) && decide ((ds.length : Int) ≤ 4)) = true then (faultAt 0 [] ds).map (fun i => V.int (i : Nat)) else some .non) = none := h
  split at h1
  · rename_i g
    rw [Bool.and_eq_true] at g
    have g1 := d_true g.1
    have g2 := d_true g.2
    refine ⟨by omega, by omega, ?_⟩
    cases e : faultAt 0 [] ds with
    | none => rfl
    | some i => rw [e] at h1; cases h1
  · cases h1
theorem glue0 : ∀ (r : List Str) (acc : Array Nat), (r.foldl (fun acc p => acc ++ ("" : Str).cps ++ p.cps) acc).toList = acc.toList ++ (r.map fun x => x.cps.toList).flatten
  | [], acc => by simp
  | x :: r, acc => by
    rw [List.foldl_cons, glue0 r]
    have e : (("" : Str)).cps = #[] := rfl
    rw [e]
    simp
theorem join0 (ys : List Str) : (Txt.join "" ys).cps.toList = (ys.map fun x => x.cps.toList).flatten := by
  show (((ys.drop 1).foldl (fun acc p => acc ++ ("" : Str).cps ++ p.cps) (ys.headD Str.empty).cps)).toList = _
  cases ys with
  | nil => rfl
  | cons x r => exact glue0 r x.cps
theorem sum_ones : ∀ (ys : List Str), (∀ y ∈ ys, y.length = 1) → (ys.map (·.length)).sum = ys.length
  | [], _ => rfl
  | y :: r, h => by
    rw [List.map_cons, List.sum_cons, h y List.mem_cons_self, sum_ones r fun z hz => h z (List.mem_cons_of_mem _ hz), List.length_cons]
    omega
section
variable {P : Program} {w : World} {K : PySem.W.Frag} {mg : Str → Option Value} {base : Heap}
def spBadges (K : PySem.W.Frag) (C : Addr) : Sp := fun vs H Q E => ∃ v d, vs = [v] ∧ Dz K H v d ∧ dp1 (dp1 txt) d ∧ match faultD d with
  | none => ∀ H', Same H H' → Q (.str (badgesD d)) H'
  | some x => ∀ H' dx, Same H H' → H dx = none → H' dx = some (.xd [("entry", x)]) → E (.ref C) (some dx) H'
theorem scBd : FnScope ["roster", "item"] ["roster"] (defScope sBadges) := ⟨rfl, rfl, rfl, by decide +kernel, rfl, by decide +kernel, by decide +kernel⟩
theorem ok_badges {f fR C : Addr} {fd fdR : FuncData} (F : Fun K "badges_of" "badges_of" sBadges f fd) (NR : FnG P w K mg base 3 fR fdR ["roster"] (spCheckR K C)) (mR : mg "check_roster" = some (.ref fR)) (kR : PySem.W.keepIn K (.ref fR) = true) (bR : Binds K fdR ["roster"] []) :
    FnG P w K mg base 4 f fd ["roster"] (spBadges K C) := by
  refine def_ok F scBd (fun vs H Q E h => ?_) (fun cdv A fr s H vs Q E c h => ?_)
  · obtain ⟨_, _, rfl, _⟩ := h
    rfl
  · obtain ⟨v, d, rfl, hd, ht, go⟩ := h
    refine ⟨_, pss_cons (ps_expr (pe_g NR c rfl mR kR bR (fun σ => passAt (takes_of rfl rfl rfl rfl) σ) (pa_cons (pv 0) pa_nil)))
      (pss_one (ps_ret (pe_join pe_str (pe_lc (own := [("item", 1)]) (g := gName 1) (tt := tYes) (te := tOp (rIxT K) (tVar 1) (tC (.int 0))) rfl scBd.nd (pi_tup (pv 0)) (blkOk_by (N := ["roster", "item"]) (sc := defScope sBadges) (by decide +kernel)) (fun _ _ _ _ _ => pg_name (i := 1) scBd.nd rfl (Or.inl rfl)) (fun _ _ _ _ _ => pts_nil) (fun _ _ _ _ _ => pe_ix ix_tup (pv 1) pe_int (fun _ _ => rfl)))))), ?_⟩
    walk_at "run"
    refine ⟨v, d, rfl, hd, ht, ?_⟩
    cases e : faultD d with
    | some x =>
      rw [e] at go
      exact fun H' dx hS h1 h2 => go H' dx hS h1 h2
    | none =>
      rw [e] at go
      intro H' hS
      walk_at "run"
      cases hd with
      | tup hs ha =>
        rename_i a xs ds
        obtain ⟨n1, n4, hf⟩ := faultD_some e
        have hl := DzA.len ha
        have hall := fault_all hf
        have ones : ∀ y ∈ ds.map headT, y.length = 1 := fun y hy => by
          obtain ⟨d, hd, rfl⟩ := List.mem_map.mp hy
          obtain ⟨x, i, rfl, hb, _⟩ := entry_shape (hall d hd)
          exact badge_one hb
        refine ⟨a, rfl, ⟨_, sqt_same hS hs⟩, fun D hD => lc_tup (xs := xs) (fun i H3 => (∀ b o, H' b = some o → H3 b = some o) ∧ H3 D = some (.lst (((ds.take i).map headT).map V.str)))
          ⟨fun b o h => by rw [upd_ne (ne_of_none h hD)]; exact h, upd_same⟩ (fun i H3 _ ⟨h3, _⟩ => sqt_same h3 (sqt_same hS hs)) ?_ ?_⟩
        · rintro i x H3 hx ⟨h3, hD3⟩
          obtain ⟨di, hdi, hzi⟩ := DzA.at ha hx
          obtain ⟨z, n, rfl, hz, hn⟩ := entry_shape (hall di (List.mem_of_getElem? hdi))
          have hi : i < ds.length := (List.getElem?_eq_some_iff.mp hdi).1
          have hzi3 := (hzi.same hS).same h3
          walk_at "run"
          refine ⟨rfl, ?_⟩
          walk_at "run"
          cases hzi3 with
          | tup hs3 ha3 =>
          cases ha3 with
          | cons a1 r3 =>
          cases a1 with
          | str =>
          cases r3 with
          | cons a2 r4 =>
          cases r4 with
          | nil =>
          rename_i q v2
          refine n_ixT hs3 (show atI [V.str z, v2] 0 = some (V.str z) from rfl) ?_
          refine ⟨_, hD3, ?_, fun b o h => ?_, ?_⟩
          · rw [List.length_map, List.length_map, List.length_take, sizeLine_eq]
            omega
          · rw [upd_ne (ne_of_none h hD)]
            exact h3 b o h
          · rw [upd_same, take_snoc hdi, List.map_append, List.map_append]
            rfl
        · rintro H3 ⟨h3, hD3⟩
          rw [hl, List.take_length] at hD3
          refine ⟨"", D, ds.map headT, rfl, rfl, Or.inl (SqL.of hD3), ?_, ?_⟩
          · rw [sum_ones _ ones, List.length_map]
            show ds.length + ds.length * 0 ≤ 16777216
            omega
          · exact go H3 fun b o h => h3 b o (hS b o h)
      | _ => cases e
end

section
variable {K : PySem.W.Frag}
theorem same_none {H H' : Hp} {a : Addr} (e : Same H H') (h : H' a = none) : H a = none := by
  cases q : H a with
  | none => rfl
  | some u => rw [e a u q] at h; cases h
theorem same_tr {H H1 H2 : Hp} (e : Same H H1) (e2 : Same H1 H2) : Same H H2 := fun b u q => e2 b u (e b u q)
theorem walk_es {z : Str} : Walk (Ies z) z.cps.size (fun _ => True) (fun i H v H' => ∃ T c, v = .ref T ∧ H T = none ∧ H' = upd H T (.tup [.int (i : Nat), .str ⟨#[c]⟩]) ∧ z.cps[i]? = some c) :=
  ⟨fun _ _ hi _ => hi, fun _ _ => rfl, fun _ _ _ _ _ _ y => y⟩
theorem walk_et {a : Addr} {xs : List V} : Walk (Iet K a xs) xs.length (fun H => SqT K H a xs) (fun i H v H' => ∃ T x, v = .ref T ∧ H T = none ∧ H' = upd H T (.tup [.int (i : Nat), x]) ∧ xs[i]? = some x) :=
  ⟨fun _ _ hi q => ⟨q, hi⟩, fun _ q => ⟨q, rfl⟩, fun _ _ _ _ _ _ y => y⟩
end
/-! ### drawn rosters are rosters; turned lines -/
def enD (r : Nat × Int) : PyData := .tuple [.str ⟨#[r.1]⟩, .int r.2]
def roD (rs : List (Nat × Int)) : PyData := .tuple (rs.map enD)
theorem dza_refs {K : PySem.W.Frag} {H : Hp} {ps : List Addr} {rs : List (Nat × Int)} (h : Paired (isR H) ps rs) : DzA K H (ps.map V.ref) (rs.map enD) := by
  induction h with
  | nil => exact .nil
  | cons r t ih => exact .cons (.tup (SqT.of r) (.cons (.str _) (.cons (.int _) .nil))) ih
theorem ro_dz {K : PySem.W.Frag} {H : Hp} {a : Addr} {rs : List (Nat × Int)} (h : Ro H a rs) : Dz K H (.ref a) (roD rs) := by
  obtain ⟨ps, h1, h2⟩ := h
  exact .tup (SqT.of h1) (dza_refs h2)
theorem ro_txt (rs : List (Nat × Int)) : dp1 (dp1 txt) (roD rs) := fun e he => by
  obtain ⟨r, _, rfl⟩ := List.mem_map.mp he
  intro f hf
  rcases List.mem_cons.mp hf with rfl | hf
  · show 1 ≤ 100000
    decide
  · obtain rfl := List.mem_singleton.mp hf
    trivial
theorem lt_one {a b : Nat} : ([a] < [b]) ↔ a < b := by simp [List.cons_lt_cons_iff]
theorem badge_lt {c : Nat} (h1 : 97 ≤ c) (h2 : c ≤ 122) : isBadgeD (.str ⟨#[c]⟩) = true := by
  have e1 : ("a" : Str).cps.toList = [97] := rfl
  have e2 : ("z" : Str).cps.toList = [122] := rfl
  show (decide ((1 : Int) = 1) && (!decide ([c] < ("a" : Str).cps.toList)) && (!decide (("z" : Str).cps.toList < [c]))) = true
  rw [e1, e2, decide_eq_false (fun q => by have := lt_one.mp q; omega : ¬ [c] < [97]), decide_eq_false (fun q => by have := lt_one.mp q; omega : ¬ [122] < [c])]
  decide
theorem en_entry {r : Nat × Int} (h : okB r) : isEntryD (enD r) = true := by
  obtain ⟨h1, h2, h3, h4⟩ := h
  show (isBadgeD (.str ⟨#[r.1]⟩) && (decide (0 ≤ r.2) && decide (r.2 ≤ 5))) = true
  rw [badge_lt h1 h2, decide_eq_true h3, decide_eq_true h4]
  rfl
theorem fault_ok : ∀ {rs : List (Nat × Int)} {i : Nat} {b : List Nat}, (∀ r ∈ rs, okB r) → rs.Pairwise (fun a b => a.1 < b.1) → (∀ r ∈ rs, b < [r.1]) → faultAt i b (rs.map enD) = none
  | [], i, b, _, _, _ => rfl
  | r :: rs, i, b, h1, h2, h3 => by
    have g : goodE b (enD r) = true := by
      unfold goodE
      rw [en_entry (h1 r List.mem_cons_self), Bool.true_and]
      exact decide_eq_true (h3 r List.mem_cons_self)
    show (if goodE b (enD r) = true then _ else _) = _
    rw [if_pos g]
    obtain ⟨p1, p2⟩ := List.pairwise_cons.mp h2
    exact fault_ok (fun x hx => h1 x (List.mem_cons_of_mem _ hx)) p2 fun x hx => lt_one.mpr (p1 x hx)
theorem ro_good {rs : List (Nat × Int)} (h : okR rs) : faultD (roD rs) = none := by
  obtain ⟨n1, n4, hp, hb⟩ := h
  have e : faultD (roD rs) = (if (decide (1 ≤ ((rs.map enD).length : Int)) && decide (((rs.map enD).length : Int) ≤ 4)) = true then (faultAt 0 [] (rs.map enD)).map (fun i => V.int (i : Nat)) else some .non) := rfl
  rw [e, List.length_map, decide_eq_true (by omega : (1 : Int) ≤ (rs.length : Int)), decide_eq_true (by omega : (rs.length : Int) ≤ 4), if_pos (show (true && true) = true from rfl), fault_ok hb hp fun r _ => List.nil_lt_cons _ _]
  rfl
theorem ro_badges (rs : List (Nat × Int)) : (badgesD (roD rs)).cps.toList = rs.map (·.1) := by
  show (Txt.join "" ((rs.map enD).map headT)).cps.toList = _
  rw [join0, List.map_map, List.map_map]
  induction rs with
  | nil => rfl
  | cons r t ih =>
    rw [List.map_cons, List.flatten_cons, ih]
    rfl

/-! ### data that is compared -/
def xD : V → PyData
  | .int i => .int i
  | .str x => .str x
  | .bl b => .bool b
  | _ => .none
def flV (x : V) : Prop := x = .non ∨ (∃ i, x = .int i) ∨ (∃ b, x = .bl b) ∨ ∃ z : Str, x = .str z ∧ ∀ c ∈ z.cps.toList, c < 1114112
theorem fl_dp {K : PySem.W.Frag} {H : Hp} {x : V} (h : flV x) : Dp K H x (xD x) := by
  rcases h with rfl | ⟨i, rfl⟩ | ⟨b, rfl⟩ | ⟨z, rfl, _⟩
  · exact .non
  · exact .int _
  · exact .bl _
  · exact .str _
theorem fl_lay {x : V} (h : flV x) : (xD x).canLay0 = true ∧ (xD x).depth = 0 := by
  rcases h with rfl | ⟨i, rfl⟩ | ⟨b, rfl⟩ | ⟨z, rfl, hz⟩
  · exact ⟨rfl, rfl⟩
  · exact ⟨rfl, rfl⟩
  · exact ⟨rfl, rfl⟩
  · refine ⟨?_, rfl⟩
    show PyData.canLay0 (.str z) = true
    rw [PyData.canLay0, PyData.strOk, ← Array.all_toList, List.all_eq_true]
    exact fun c hc => decide_eq_true (hz c hc)
theorem fl_str {z : Str} (h : ∀ c ∈ z.cps.toList, c < 1114112) : flV (.str z) := .inr (.inr (.inr ⟨z, rfl, h⟩))
theorem fls_dpa {K : PySem.W.Frag} {H : Hp} : ∀ {xs : List V}, (∀ x ∈ xs, flV x) → DpAll K H xs (xs.map xD)
  | [], _ => .nil
  | x :: r, h => .cons (fl_dp (h x List.mem_cons_self)) (fls_dpa fun y hy => h y (List.mem_cons_of_mem _ hy))
theorem can_all : ∀ {ds : List PyData}, (∀ d ∈ ds, d.canLay0 = true) → PyData.canLayAll0 ds = true
  | [], _ => rfl
  | d :: r, h => by
    rw [PyData.canLayAll0, h d List.mem_cons_self, can_all fun e he => h e (List.mem_cons_of_mem _ he)]
    rfl
theorem dep_all {k : Nat} : ∀ {ds : List PyData}, (∀ d ∈ ds, d.depth ≤ k) → PyData.depthAll ds ≤ k
  | [], _ => Nat.zero_le _
  | d :: r, h => by
    rw [PyData.depthAll]
    exact Nat.max_le.mpr ⟨h d List.mem_cons_self, dep_all fun e he => h e (List.mem_cons_of_mem _ he)⟩
/-- lists of lists of flat things -/
def llD (ls : List (List V)) : PyData := .list (ls.map fun l => .list (l.map xD))
theorem ll_shaped {ls : List (List V)} (h : ∀ l ∈ ls, ∀ x ∈ l, flV x) : SeqAt.shaped (llD ls) = true := by
  have h1 : ∀ l ∈ ls, (PyData.list (l.map xD)).canLay0 = true ∧ (PyData.list (l.map xD)).depth ≤ 1 := fun l hl => by
    refine ⟨?_, ?_⟩
    · rw [PyData.canLay0]
      exact can_all fun d hd => by
        obtain ⟨x, hx, rfl⟩ := List.mem_map.mp hd
        exact (fl_lay (h l hl x hx)).1
    · rw [PyData.depth]
      have : PyData.depthAll (l.map xD) ≤ 0 := dep_all fun d hd => by
        obtain ⟨x, hx, rfl⟩ := List.mem_map.mp hd
        rw [(fl_lay (h l hl x hx)).2]
        exact Nat.le_refl _
      omega
  unfold SeqAt.shaped
  rw [Bool.and_eq_true]
  refine ⟨?_, decide_eq_true ?_⟩
  · unfold llD
    rw [PyData.canLay0]
    exact can_all fun d hd => by
      obtain ⟨l, hl, rfl⟩ := List.mem_map.mp hd
      exact (h1 l hl).1
  · unfold llD
    rw [PyData.depth]
    have : PyData.depthAll (ls.map fun l => PyData.list (l.map xD)) ≤ 1 := dep_all fun d hd => by
      obtain ⟨l, hl, rfl⟩ := List.mem_map.mp hd
      exact (h1 l hl).2
    omega
theorem l_shaped {l : List V} (h : ∀ x ∈ l, flV x) : SeqAt.shaped (.list (l.map xD)) = true := by
  unfold SeqAt.shaped
  rw [Bool.and_eq_true]
  refine ⟨?_, decide_eq_true ?_⟩
  · rw [PyData.canLay0]
    exact can_all fun d hd => by
      obtain ⟨x, hx, rfl⟩ := List.mem_map.mp hd
      exact (fl_lay (h x hx)).1
  · rw [PyData.depth]
    have : PyData.depthAll (l.map xD) ≤ 0 := dep_all fun d hd => by
      obtain ⟨x, hx, rfl⟩ := List.mem_map.mp hd
      rw [(fl_lay (h x hx)).2]
      exact Nat.le_refl _
    omega
inductive LLs (H : Hp) : List Addr → List (List V) → Prop
  | nil : LLs H [] []
  | cons {p : Addr} {l : List V} {ps : List Addr} {ls : List (List V)} : H p = some (.lst l) → LLs H ps ls → LLs H (p :: ps) (l :: ls)
theorem LLs.same {H H' : Hp} (s : Same H H') : ∀ {ps : List Addr} {ls : List (List V)}, LLs H ps ls → LLs H' ps ls
  | _, _, .nil => .nil
  | _, _, .cons h r => .cons (s _ _ h) (LLs.same s r)
theorem LLs.upd {H : Hp} {D : Addr} {o : HO} : ∀ {ps : List Addr} {ls : List (List V)}, D ∉ ps → LLs H ps ls → LLs (L2.upd H D o) ps ls
  | _, _, _, .nil => .nil
  | _, _, n, .cons h r => .cons (by
    rw [upd_ne (fun q => n (by rw [← q]; exact List.mem_cons_self))]
    exact h) (LLs.upd (fun q => n (List.mem_cons_of_mem _ q)) r)
theorem lls_snoc {H : Hp} {p : Addr} {l : List V} : ∀ {ps : List Addr} {ls : List (List V)}, LLs H ps ls → H p = some (.lst l) → LLs H (ps ++ [p]) (ls ++ [l])
  | _, _, .nil, h => .cons h .nil
  | _, _, .cons h0 r, h => .cons h0 (lls_snoc r h)
theorem lls_dp {K : PySem.W.Frag} {H : Hp} : ∀ {ps : List Addr} {ls : List (List V)}, LLs H ps ls → (∀ l ∈ ls, ∀ x ∈ l, flV x) → DpAll K H (ps.map V.ref) (ls.map fun l => .list (l.map xD))
  | _, _, .nil, _ => .nil
  | _, _, .cons h r, f => .cons (.lst (SqL.of h) (fls_dpa (f _ List.mem_cons_self))) (lls_dp r fun l hl => f l (List.mem_cons_of_mem _ hl))
theorem ll_dp {K : PySem.W.Frag} {H : Hp} {D : Addr} {ps : List Addr} {ls : List (List V)} (h : H D = some (.lst (ps.map V.ref))) (r : LLs H ps ls) (f : ∀ l ∈ ls, ∀ x ∈ l, flV x) : Dp K H (.ref D) (llD ls) := .lst (SqL.of h) (lls_dp r f)
theorem ne_same {d : PyData} (h : SeqAt.shaped d = true) : (!PyData.eqv d d) = false := by rw [SeqAt.eqv_refl _ (SeqAt.canLay_of_shaped h)]; rfl
/-- a comprehension of calls that each leave a new list -/
theorem words_lc {te : TE} {σ : L2.St} {vs : List Nat} {k n : Nat} {H0 : Hp} {D : Addr} {f : Nat → List V} {Qd : Hp → Prop} (hn : n ≤ 100) (hD : H0 D = none) (hw : ∀ (v : V), wipe ((wipe σ vs).set k (some v)) vs = wipe σ vs)
    (ht : ∀ (i : Nat) (H : Hp) (Q : VK), i < n → Same H0 H → (∀ H' p, Same H H' → H p = none → H' p = some (.lst (f i)) → Q (.ref p) H') → te ((wipe σ vs).set k (some (.int ((0 : Int) + (i : Nat))))) H Q)
    (hd : ∀ H' ps, Same H0 H' → H' D = some (.lst (ps.map V.ref)) → LLs H' ps ((List.range n).map f) → Qd H') :
    ∃ W : Nat → Nat → Hp → Prop, (∃ m, W 0 m (upd H0 D (.lst []))) ∧ ∀ i m H, W i m H →
      ((Itr 0 n).stop i H ∧ Qd H) ∨ ((Itr 0 n).go i H ∧ ∃ Nx : Hp → Prop, (∀ H', Nx H' → ∃ m', m' < m ∧ W (i + 1) m' H') ∧ ∀ x H', (Itr 0 n).yld i H x H' → gName k x (wipe σ vs) H' fun σ2 H2 => wipe σ2 vs = wipe σ vs ∧ tYes σ2 H2 fun b H3 =>
        if b = true then te σ2 H3 fun y H4 => ∃ acc, H4 D = some (.lst acc) ∧ acc.length < sizeLine ∧ Nx (upd H4 D (.lst (acc ++ [y]))) else Nx H3) := by
  refine lc_it (n := n) walk_range (fun i H' => Same H0 H' ∧ ∃ ps : List Addr, H' D = some (.lst (ps.map V.ref)) ∧ ps.length = i ∧ D ∉ ps ∧ LLs H' ps ((List.range i).map f))
    ⟨same_new hD, [], upd_same, rfl, (by simp), .nil⟩ (fun _ _ _ _ => trivial) ?_ ?_
  · rintro i x H H' hi ⟨hS, ps, hDl, hl, hnd, hps⟩ ⟨rfl, rfl⟩
    refine ⟨hw _, n_yes (iteT ?_)⟩
    refine ht i H' _ hi hS fun H4 p h4 hp hv => ⟨_, h4 _ _ hDl, ?_, fun b u q => ?_, ps ++ [p], ?_, by rw [List.length_append, hl]; rfl, ?_, ?_⟩
    · rw [List.length_map, hl, sizeLine_eq]
      omega
    · rw [upd_ne (ne_of_none q hD)]
      exact h4 b u (hS b u q)
    · rw [upd_same, List.map_append]
      rfl
    · have nd : D ≠ p := ne_of_none hDl hp
      intro q
      rcases List.mem_append.mp q with q | q
      · exact hnd q
      · exact nd (List.mem_singleton.mp q)
    · have nd : D ≠ p := ne_of_none hDl hp
      rw [List.range_succ, List.map_append]
      refine lls_snoc (LLs.upd hnd (LLs.same h4 hps)) ?_
      rw [upd_ne (Ne.symm nd)]
      exact hv
  · rintro H' ⟨hS, ps, hDl, hl, hnd, hps⟩
    exact hd H' ps hS hDl hps

/-! ### data that can be shown -/
structure OkD (d : PyData) (k W : Nat) : Prop where
  lay : d.canLay0 = true
  dep : d.depth ≤ k
  wt : d.weight ≤ W
  sh : d.showable = true
  sm : d.intsShort 13 = true
def Shw (d : PyData) : Prop := d.showable = true ∧ d.depth ≤ 40 ∧ d.shown.length ≤ sizeLine
theorem OkD.shw {d : PyData} {k W : Nat} (h : OkD d k W) (hk : k ≤ 40) (hW : W ≤ 1048576) : Shw d := by
  have h1 := h.dep
  have h2 := h.wt
  refine ⟨h.sh, by omega, Nat.le_trans (shown_le13 (d := d) ?_ h.sm) (by rw [sizeLine_eq]; decide)⟩
  unfold PyData.layable0
  rw [h.lay, decide_eq_true (by omega : d.depth ≤ 64), decide_eq_true (by omega : d.weight ≤ 2 ^ 20)]
  rfl
theorem OkD.mono {d : PyData} {k k' W W' : Nat} (h : OkD d k W) (h1 : k ≤ k') (h2 : W ≤ W') : OkD d k' W' := ⟨h.lay, Nat.le_trans h.dep h1, Nat.le_trans h.wt h2, h.sh, h.sm⟩
theorem ok_items {k W : Nat} : ∀ {ds : List PyData}, (∀ d ∈ ds, OkD d k W) → PyData.canLayAll0 ds = true ∧ PyData.depthAll ds ≤ k ∧ PyData.weightAll ds ≤ ds.length * (W + 1) ∧ PyData.showableAll ds = true ∧ PyData.intsShortAll 13 ds = true
  | [], _ => ⟨rfl, Nat.zero_le _, Nat.zero_le _, rfl, rfl⟩
  | d :: r, h => by
    obtain ⟨h1, h2, h3, h4, h5⟩ := ok_items fun e he => h e (List.mem_cons_of_mem _ he)
    obtain ⟨g1, g2, g3, g4, g5⟩ := h d List.mem_cons_self
    refine ⟨?_, ?_, ?_, ?_, ?_⟩
    · rw [PyData.canLayAll0, g1, h1]
      rfl
    · rw [PyData.depthAll]
      exact Nat.max_le.mpr ⟨g2, h2⟩
    · rw [PyData.weightAll, List.length_cons, Nat.succ_mul]
      omega
    · rw [PyData.showableAll, g4, h4]
      rfl
    · rw [PyData.intsShortAll, g5, h5]
      rfl
theorem ok_tuple {k W : Nat} {ds : List PyData} (h : ∀ d ∈ ds, OkD d k W) : OkD (.tuple ds) (k + 1) (ds.length * (W + 1)) := by
  obtain ⟨h1, h2, h3, h4, h5⟩ := ok_items h
  exact ⟨by rw [PyData.canLay0]; exact h1, by rw [PyData.depth]; omega, by rw [PyData.weight]; exact h3, by rw [PyData.showable]; exact h4, by rw [PyData.intsShort]; exact h5⟩
theorem ok_list {k W : Nat} {ds : List PyData} (h : ∀ d ∈ ds, OkD d k W) : OkD (.list ds) (k + 1) (ds.length * (W + 1)) := by
  obtain ⟨h1, h2, h3, h4, h5⟩ := ok_items h
  exact ⟨by rw [PyData.canLay0]; exact h1, by rw [PyData.depth]; omega, by rw [PyData.weight]; exact h3, by rw [PyData.showable]; exact h4, by rw [PyData.intsShort]; exact h5⟩
theorem ok_str {z : Str} (h : ∀ c ∈ z.cps.toList, c < 1114112) : OkD (.str z) 0 z.length :=
  ⟨(fl_lay (fl_str h)).1, Nat.le_refl _, Nat.le_refl _, rfl, rfl⟩
theorem ok_none : OkD .none 0 0 := ⟨rfl, Nat.le_refl _, Nat.le_refl _, rfl, rfl⟩
theorem ok_bool (b : Bool) : OkD (.bool b) 0 0 := ⟨rfl, Nat.le_refl _, Nat.le_refl _, rfl, rfl⟩
theorem ok_small : ∀ n : Nat, n < 64 → PyData.weight (.int (n : Nat)) ≤ 8 ∧ PyData.showable (.int (n : Nat)) = true ∧ PyData.intsShort 13 (.int (n : Nat)) = true := by decide +kernel
theorem ok_int {i : Int} (h0 : 0 ≤ i) (h1 : i < 64) : OkD (.int i) 0 8 := by
  obtain ⟨n, rfl⟩ := Int.eq_ofNat_of_zero_le h0
  obtain ⟨a, b, c⟩ := ok_small n (by omega)
  exact ⟨rfl, Nat.le_refl _, a, b, c⟩
theorem ok_en {r : Nat × Int} (h : okB r) : OkD (enD r) 1 18 := by
  obtain ⟨h1, h2, h3, h4⟩ := h
  refine ok_tuple (k := 0) (W := 8) fun d hd => ?_
  rcases List.mem_cons.mp hd with rfl | hd
  · exact (ok_str (z := ⟨#[r.1]⟩) fun c hc => by
      have hc' : c ∈ [r.1] := hc
      obtain rfl := List.mem_singleton.mp hc'
      omega).mono (Nat.le_refl _) (by show 1 ≤ 8; decide)
  · obtain rfl := List.mem_singleton.mp hd
    exact ok_int h3 (by omega)
theorem ok_ro {rs : List (Nat × Int)} (h : ∀ r ∈ rs, okB r) : OkD (roD rs) 2 (rs.length * 19) := by
  have := ok_tuple (k := 1) (W := 18) (ds := rs.map enD) fun d hd => by
    obtain ⟨r, hr, rfl⟩ := List.mem_map.mp hd
    exact ok_en (h r hr)
  rw [List.length_map] at this
  exact this
theorem shw_dict : Shw (.dict []) := by
  unfold Shw
  rw [sizeLine_eq]
  decide +kernel
/-- data under a change of one dict that isn't empty -/
def Kd (H H' : Hp) : Prop := ∀ b u, H b = some u → (∀ kvs, u = .dK kvs → kvs = []) → H' b = some u
theorem kd_rd {H H' : Hp} {a : Addr} {u : HO} (k : Kd H H') (nu : ∀ kvs, u ≠ .dK kvs) (h : Rd H a u) : Rd H' a u := by
  rcases h with h | ⟨o, h⟩
  · exact .inl (k _ _ h fun kvs e => absurd e (nu kvs))
  · exact .inr ⟨o, k _ _ h fun kvs e => by cases e⟩
mutual
theorem Dz.kd {K : PySem.W.Frag} {H H' : Hp} (k : Kd H H') : ∀ {v : V} {d : PyData}, Dz K H v d → Dz K H' v d
  | _, _, .non => .non
  | _, _, .bl b => .bl b
  | _, _, .int i => .int i
  | _, _, .str x => .str x
  | _, _, .lst h a => .lst (h.elim (fun h => .inl (kd_rd k (fun _ e => by cases e) h)) .inr) (DzA.kd k a)
  | _, _, .tup h a => .tup (h.elim (fun h => .inl (kd_rd k (fun _ e => by cases e) h)) .inr) (DzA.kd k a)
  | _, _, .dic h => .dic (k _ _ h fun kvs e => by cases e; rfl)
theorem DzA.kd {K : PySem.W.Frag} {H H' : Hp} (k : Kd H H') : ∀ {vs : List V} {ds : List PyData}, DzA K H vs ds → DzA K H' vs ds
  | _, _, .nil => .nil
  | _, _, .cons a b => .cons (Dz.kd k a) (DzA.kd k b)
end
theorem Dr.kd {H H' : Hp} {p c : Addr} {m : Nat} (x : Dr H p c m) (k : Kp p H H') : Kd H H' := fun b u h n => by
  refine k b u (fun q => ?_) h
  obtain ⟨ns, a, l, w, e, _⟩ := x
  rw [q, e] at h
  cases h
  have := n _ rfl
  cases this
theorem Same.kd {H H' : Hp} (s : Same H H') : Kd H H' := fun b u h _ => s b u h

/-! ### is_roster, size_of -/
section
variable {P : Program} {w : World} {K : PySem.W.Frag} {mg : Str → Option Value} {base : Heap}
def spIsR (K : PySem.W.Frag) : Sp := fun vs H Q _ => ∃ v d, vs = [v] ∧ Dz K H v d ∧ dp1 (dp1 txt) d ∧ ∀ H', Same H H' → Q (.bl (faultD d).isNone) H'
theorem scIR0 : FnScope ["thing"] ["thing"] (defScope sIsR) := ⟨rfl, rfl, rfl, by decide +kernel, rfl, by decide +kernel, by decide +kernel⟩
theorem ok_isR {f fR C : Addr} {fd fdR : FuncData} (F : Fun K "is_roster" "is_roster" sIsR f fd) (NR : FnG P w K mg base 3 fR fdR ["roster"] (spCheckR K C)) (mR : mg "check_roster" = some (.ref fR)) (kR : PySem.W.keepIn K (.ref fR) = true) (bR : Binds K fdR ["roster"] [])
    (gR : mg "InvalidRoster" = some (.ref C)) (e1 : PySem.W.exmOne K (.ref C) (.ref C) = some true) : FnG P w K mg base 4 f fd ["thing"] (spIsR K) := by
  refine def_ok F scIR0 (fun vs H Q E h => ?_) (fun cdv A fr s H vs Q E c h => ?_)
  · obtain ⟨_, _, rfl, _⟩ := h
    rfl
  · obtain ⟨v, d, rfl, hd, ht, go⟩ := h
    refine ⟨_, pss_cons (ps_try_only rfl rfl ⟨rfl, by decide, .inl gR⟩ (takes_of rfl rfl rfl rfl) (fun W pn xe tk _ => pss_one (ps_expr (pe_g NR c rfl mR kR bR (fun σ => passAt tk σ) (pa_cons (pv 0) pa_nil))))
        (fun a oe cls d pn _ _ => pss_one (ps_ret pe_bl)))
      (pss_one (ps_ret pe_bl)), ?_⟩
    walk_at "run"
    refine ⟨v, d, rfl, hd, ht, ?_⟩
    cases e : faultD d with
    | none =>
      rw [e] at go
      intro H' hS
      walk_at "run"
      exact go H' hS
    | some x =>
      rw [e] at go
      refine fun H' dx hS h1 h2 => ⟨true, e1, fun _ a ha => ?_, fun q => (by cases q)⟩
      walk_at "run"
      exact go H' hS
/-- a thing that may be asked for as a badge -/
def askD (d : PyData) : Prop := SeqAt.shaped d = true ∨ d = .dict []
/-- the size of it in the entries -/
def sizeIn : List PyData → PyData → Option V
  | .tuple [.str x, .int i] :: r, q => if PyData.eqv (.str x) q = true then some (.int i) else sizeIn r q
  | _ :: r, q => sizeIn r q
  | [], _ => none
def spSizeOf (K : PySem.W.Frag) (C B : Addr) : Sp := fun vs H Q E => ∃ (v : V) (d : PyData) (u : V) (q : PyData), vs = [v, u] ∧ Dz K H v d ∧ Dz K H u q ∧ dp1 (dp1 txt) d ∧ askD q ∧ match faultD d with
  | some x => ∀ H' dx, Same H H' → H dx = none → H' dx = some (.xd [("entry", x)]) → E (.ref C) (some dx) H'
  | none => match d with
    | .tuple ds => (match sizeIn ds q with
      | some x => ∀ H', Same H H' → Q x H'
      | none => ∀ H' dx, Same H H' → H dx = none → H' dx = some (.xd [("badge", u)]) → E (.ref B) (some dx) H')
    | _ => True
theorem scSo : FnScope ["roster", "badge", "own_badge", "size"] ["roster", "badge"] (defScope sSizeOf) := ⟨rfl, rfl, rfl, by decide +kernel, rfl, by decide +kernel, by decide +kernel⟩
theorem sizeIn_app {es ds : List PyData} {q : PyData} : (∀ e ∈ es, ∃ (x : Str) (i : Int), e = .tuple [.str x, .int i] ∧ PyData.eqv (.str x) q = false) → sizeIn (es ++ ds) q = sizeIn ds q := by
  induction es with
  | nil => exact fun _ => rfl
  | cons e r ih =>
    intro h
    obtain ⟨x, i, rfl, hx⟩ := h e List.mem_cons_self
    show (if PyData.eqv (.str x) q = true then some (V.int i) else sizeIn (r ++ ds) q) = _
    rw [hx, if_neg (by decide)]
    exact ih fun y hy => h y (List.mem_cons_of_mem _ hy)
theorem ok_sizeOf {f fR C B fI : Addr} {fd fdR fdI : FuncData} (F : Fun K "size_of" "size_of" sSizeOf f fd) (NR : FnG P w K mg base 3 fR fdR ["roster"] (spCheckR K C)) (mR : mg "check_roster" = some (.ref fR)) (kR : PySem.W.keepIn K (.ref fR) = true) (bR : Binds K fdR ["roster"] [])
    (T : Ec K mg "InvalidBadge" B fI "badge") (FI : FnOk P w K mg base (L2.CX P w) 1 fI fdI ["self", "badge"] (spIni B "badge")) (bI : Binds K fdI ["self", "badge"] []) : FnG P w K mg base 4 f fd ["roster", "badge"] (spSizeOf K C B) := by
  refine def_ok F scSo (fun vs H Q E h => ?_) (fun cdv A fr s H vs Q E c h => ?_)
  · obtain ⟨_, _, _, _, rfl, _⟩ := h
    rfl
  · obtain ⟨v, d, u, q, rfl, hd, hu, ht, hq, go⟩ := h
    refine ⟨_, pss_cons (ps_expr (pe_g NR c rfl mR kR bR (fun σ => passAt (takes_of rfl rfl rfl rfl) σ) (pa_cons (pv 0) pa_nil)))
      (pss_cons (ps_for (passes_of rfl) rfl (pi_tup (pv 0)) (pg_tup rfl (pgs_cons (pg_name (i := 2) scSo.nd rfl (Or.inl rfl)) (pgs_cons (pg_name (i := 3) scSo.nd rfl (Or.inl rfl)) pgs_nil)))
        (pss_one (ps_if (pt_cmpR (op_eqZ c.room.units) (pv 2) (pv 1) (nomark _)) (pss_one (ps_ret (pv 3))) pss_nil)))
      (pss_one (ps_rz T FI bI (c.mono (by decide)).room rfl (takes_of rfl rfl rfl rfl) (pv 1) rfl))), ?_⟩
    walk_at "run"
    refine ⟨v, d, rfl, hd, ht, ?_⟩
    cases e : faultD d with
    | some x =>
      rw [e] at go
      exact fun H' dx hS h1 h2 => go H' dx hS h1 h2
    | none =>
      rw [e] at go
      intro H1 hS1
      walk_at "run"
      cases hd with
      | tup hs ha =>
        rename_i a xs ds
        obtain ⟨n1, n4, hf⟩ := faultD_some e
        have hall := fault_all hf
        have hl := DzA.len ha
        refine ⟨a, rfl, ⟨_, sqt_same hS1 hs⟩, for_it walk_tup (fun i σ H' => ∃ (x2 x3 : Option V), σ = [some (.ref a), some u, x2, x3] ∧ Same H H' ∧ ∀ e ∈ ds.take i, ∃ (x : Str) (i : Int), e = .tuple [.str x, .int i] ∧ PyData.eqv (.str x) q = false)
          ⟨_, _, rfl, hS1, fun e he => by cases he⟩ (fun i σ H' _ ⟨_, _, _, hS, _⟩ => sqt_same hS hs) ?_ ?_⟩
        · rintro i x σ H2 H3 hi ⟨x2, x3, rfl, hS, hn⟩ ⟨rfl, hx⟩
          obtain ⟨di, hdi, hzi⟩ := DzA.at ha hx
          obtain ⟨z, n, rfl, hz, hn2⟩ := entry_shape (hall di (List.mem_of_getElem? hdi))
          have hz3 := hzi.same hS
          cases hz3 with
          | tup hs3 ha3 =>
          cases ha3 with
          | cons a1 r3 =>
          cases a1 with
          | str =>
          cases r3 with
          | cons a2 r4 =>
          cases a2 with
          | int =>
          cases r4 with
          | nil =>
          refine n_gtup hs3 rfl ?_
          walk_at "run"
          have zl := badge_one hz
          have zs : SeqAt.shaped (.str z) = true := by
            have h1 : (decide ((z.length : Int) = 1) && !decide (z.cps.toList < ("a" : Str).cps.toList) && !decide (("z" : Str).cps.toList < z.cps.toList)) = true := hz
            rw [Bool.and_eq_true, Bool.and_eq_true] at h1
            have h2 := d_false (not_t (by simpa using h1.2 : (!decide (("z" : Str).cps.toList < z.cps.toList)) = true))
            have hl1 : z.cps.toList.length = 1 := by rw [Array.length_toList]; exact zl
            obtain ⟨c0, hc0⟩ := List.length_eq_one_iff.mp hl1
            have e2 : ("z" : Str).cps.toList = [122] := rfl
            rw [hc0, e2] at h2
            have hle : c0 ≤ 122 := by
              rcases Nat.lt_or_ge 122 c0 with g | g
              · exact absurd (lt_one.mpr g) h2
              · exact g
            unfold SeqAt.shaped
            rw [Bool.and_eq_true]
            refine ⟨?_, decide_eq_true (show 0 ≤ 64 by decide)⟩
            rw [PyData.canLay0, PyData.strOk, ← Array.all_toList, hc0]
            simp
            omega
          refine ⟨z, q, rfl, zs, hu.same hS, hq, ?_⟩
          walk_at "run"
          refine n_ite (fun h5 => ?_) (fun h5 => ?_)
          · walk_at "run"
            have es : sizeIn ds q = some (.int n) := by
              have e1 : ds = ds.take i ++ .tuple [.str z, .int n] :: ds.drop (i + 1) := by
                have := (List.getElem?_eq_some_iff.mp hdi).2
                rw [← this, List.getElem_cons_drop, List.take_append_drop]
              rw [e1, sizeIn_app hn]
              show (if PyData.eqv (.str z) q = true then some (V.int n) else _) = _
              rw [if_pos h5]
            have go2 : match sizeIn ds q with
              | some x => ∀ H', Same H H' → Q x H'
              | none => ∀ H' dx, Same H H' → H dx = none → H' dx = some (.xd [("badge", u)]) → E (.ref B) (some dx) H' := go
            rw [es] at go2
            exact go2 _ hS
          · walk_at "run"
            refine ⟨_, _, rfl, hS, fun e he => ?_⟩
            rw [take_snoc hdi] at he
            rcases List.mem_append.mp he with he | he
            · exact hn e he
            · obtain rfl := List.mem_singleton.mp he
              exact ⟨z, n, rfl, h5⟩
        · rintro σ H2 ⟨x2, x3, rfl, hS, hn⟩
          rw [hl, List.take_length] at hn
          have es : sizeIn ds q = none := by
            have := sizeIn_app (ds := []) hn
            rw [List.append_nil] at this
            exact this
          have go2 : match sizeIn ds q with
            | some x => ∀ H', Same H H' → Q x H'
            | none => ∀ H' dx, Same H H' → H dx = none → H' dx = some (.xd [("badge", u)]) → E (.ref B) (some dx) H' := go
          rw [es] at go2
          walk_at "run"
          exact fun dx hdx => go2 _ dx (same_tr hS (same_new hdx)) (same_none hS hdx) upd_same
      | _ => cases e
end

/-! ### the law's judgement of a roster -/
def flF (d : PyData) : List V := match faultD d with
  | none => []
  | some x => [x]
section
variable {P : Program} {w : World} {K : PySem.W.Frag} {mg : Str → Option Value} {base : Heap}
def spFault (K : PySem.W.Frag) : Sp := fun vs H Q _ => ∃ v d, vs = [v] ∧ Dz K H v d ∧ dp1 (dp1 txt) d ∧ ∀ H' p, Same H H' → H p = none → H' p = some (.lst (flF d)) → Q (.ref p) H'
theorem scFa : FnScope ["what", "last", "at", "item"] ["what"] (defScope sFault) := ⟨rfl, rfl, rfl, by decide +kernel, rfl, by decide +kernel, by decide +kernel⟩
theorem ok_fault {f : Addr} {fd : FuncData} (F : Fun K "_law_fault" "_law_fault" sFault f fd) (G : Gi mg) (Ge : mg "enumerate" = none) : FnG P w K mg base 1 f fd ["what"] (spFault K) := by
  refine def_ok F scFa (fun vs H Q E h => ?_) (fun cdv A fr s H vs Q E c h => ?_)
  · obtain ⟨_, _, rfl, _⟩ := h
    rfl
  · obtain ⟨v, d, rfl, hd, ht, go⟩ := h
    refine ⟨_, pss_cons (ps_if (PW.pt (pw_or (pt_not (pt_val (pe_callB call_isi (by rfl) G.isi (by decide +kernel) (pa_cons (pv 0) (pa_cons (pe_ty (T := "tuple") rfl G.tuple (by decide +kernel)) pa_nil)))))
          (pw_or (pt_cmpR op_lt (pe_callB call_len_seq (by rfl) G.len PySem.boot_len (pa_cons (pv 0) pa_nil)) pe_int (nomark _))
          (pw_or1 (pt_cmpR op_gt (pe_callB call_len_seq (by rfl) G.len PySem.boot_len (pa_cons (pv 0) pa_nil)) pe_int (nomark _))))))
        (pss_one (ps_ret (pe_lst (pa_cons pe_non pa_nil)))) pss_nil)
      (pss_cons (ps_set (i := 1) scFa.nd rfl (Or.inl rfl) pe_str)
      (pss_cons (ps_for (passes_of rfl) rfl (pi_et rfl Ge (pa_cons (pv 0) pa_nil)) (pg_tup rfl (pgs_cons (pg_name (i := 2) scFa.nd rfl (Or.inl rfl)) (pgs_cons (pg_name (i := 3) scFa.nd rfl (Or.inl rfl)) pgs_nil)))
        (pss_cons (ps_if (PW.pt (pw_or (pt_not (pt_val (pe_callB call_isi (by rfl) G.isi (by decide +kernel) (pa_cons (pv 3) (pa_cons (pe_ty (T := "tuple") rfl G.tuple (by decide +kernel)) pa_nil)))))
            (pw_or (pt_cmpR op_ne (pe_callB call_len_seq (by rfl) G.len PySem.boot_len (pa_cons (pv 3) pa_nil)) pe_int (nomark _))
            (pw_or1 (pt_not (pt_val (pe_callB call_isi (by rfl) G.isi (by decide +kernel) (pa_cons (pe_ix ix_tup (pv 3) pe_int (fun _ _ => rfl)) (pa_cons (pe_ty (T := "str") rfl G.str (by decide +kernel)) pa_nil)))))))))
          (pss_one (ps_ret (pe_lst (pa_cons (pv 2) pa_nil)))) pss_nil)
        (pss_cons (ps_if (PW.pt (pw_or (pt_cmpR op_ne (pe_callB call_len_str (by rfl) G.len PySem.boot_len (pa_cons (pe_ix ix_tup (pv 3) pe_int (fun _ _ => rfl)) pa_nil)) pe_int (nomark _))
            (pw_or (pt_not (pt_chain op_le_str op_le_str pe_str (pe_ix ix_tup (pv 3) pe_int (fun _ _ => rfl)) pe_str)) (pw_or1 (pt_cmpR op_le_str (pe_ix ix_tup (pv 3) pe_int (fun _ _ => rfl)) (pv 1) (nomark _))))))
          (pss_one (ps_ret (pe_lst (pa_cons (pv 2) pa_nil)))) pss_nil)
        (pss_cons (ps_if (PW.pt (pw_or (pt_not (pt_val (pe_callB call_isi (by rfl) G.isi (by decide +kernel) (pa_cons (pe_ix ix_tup (pv 3) pe_int (fun _ _ => rfl)) (pa_cons (pe_ty (T := "int") rfl G.int (by decide +kernel)) pa_nil)))))
            (pw_or (pt_val (pe_callB call_isi (by rfl) G.isi (by decide +kernel) (pa_cons (pe_ix ix_tup (pv 3) pe_int (fun _ _ => rfl)) (pa_cons (pe_ty (T := "bool") rfl G.bool (by decide +kernel)) pa_nil))))
            (pw_or1 (pt_not (pt_chain op_le op_le pe_int (pe_ix ix_tup (pv 3) pe_int (fun _ _ => rfl)) pe_int))))))
          (pss_one (ps_ret (pe_lst (pa_cons (pv 2) pa_nil)))) pss_nil)
        (pss_one (ps_set (i := 1) scFa.nd rfl (Or.inl rfl) (pe_ix ix_tup (pv 3) pe_int (fun _ _ => rfl))))))))
      (pss_one (ps_ret (pe_lst pa_nil))))), ?_⟩
    walk_at "run"
    refine n_isi hd (is_tuple d) ?_
    have ret : ∀ (x : V) (H3 : Hp) p, Same H H3 → H3 p = none → faultD d = some x → Q (.ref p) (upd H3 p (.lst [x])) := fun x H3 p hS hp e => by
      refine go _ p (same_tr hS (same_new hp)) (same_none hS hp) ?_
      unfold flF
      rw [e]
      exact upd_same
    cases hd with
    | tup hs ha =>
      rename_i a xs ds
      have hl := DzA.len ha
      have ht : ∀ e ∈ ds, dp1 txt e := ht
      have bad : (decide (1 ≤ (ds.length : Int)) && decide ((ds.length : Int) ≤ 4)) = false → faultD (.tuple ds) = some .non := fun hb => if_neg (by rw [hb]; decide)
      walk_at "run"
      refine iteF ?_
      walk_at "run"
      refine ⟨_, _, rfl, Or.inr hs, ?_⟩
      walk_at "run"
      refine n_ite (fun h1 => ?_) (fun h1 => ?_)
      · walk_at "run"
        refine ⟨(by show 1 ≤ sizeLine; decide), fun p hp => ret _ H p (fun _ _ h => h) hp (bad ?_)⟩
        have := d_true h1
        rw [decide_eq_false (by omega : ¬ (1 : Int) ≤ (ds.length : Int))]
        rfl
      walk_at "run"
      refine ⟨_, _, rfl, Or.inr hs, ?_⟩
      walk_at "run"
      refine n_ite (fun h2 => ?_) (fun h2 => ?_)
      · walk_at "run"
        refine ⟨(by show 1 ≤ sizeLine; decide), fun p hp => ret _ H p (fun _ _ h => h) hp (bad ?_)⟩
        have := d_true h2
        rw [decide_eq_false (by omega : ¬ (ds.length : Int) ≤ 4), Bool.and_false]
      walk_at "run"
      have g1 := d_false h1
      have g2 := d_false h2
      have ok4 : (decide (1 ≤ (ds.length : Int)) && decide ((ds.length : Int) ≤ 4)) = true := by
        rw [decide_eq_true (by omega : (1 : Int) ≤ (ds.length : Int)), decide_eq_true (by omega : (ds.length : Int) ≤ 4)]
        rfl
      have e : faultD (.tuple ds) = (faultAt 0 [] ds).map fun i => .int (i : Nat) := if_pos ok4
      refine ⟨a, xs, rfl, hs, for_it walk_et (fun i σ H' => ∃ (b : Str) (x2 x3 : Option V), σ = [some (.ref a), some (.str b), x2, x3] ∧ Same H H' ∧ faultAt 0 [] (ds.take i) = none ∧ b.cps.toList = lastB ds i)
        ⟨_, _, _, rfl, fun _ _ h => h, rfl, rfl⟩ (fun i σ H' _ ⟨_, _, _, _, hS, _⟩ => sqt_same hS hs) ?_ ?_⟩
      · rintro i x σ H2 H3 hi ⟨b, x2, x3, rfl, hS, hf, hb⟩ ⟨Tp, y, rfl, hT, rfl, hy⟩
        obtain ⟨di, hdi, hzi⟩ := DzA.at ha hy
        have hS2 : Same H (upd H2 Tp (.tup [.int (i : Nat), y])) := fun b u q => by rw [upd_ne (ne_of_none (hS b u q) hT)]; exact hS b u q
        have hz2 := hzi.same hS2
        have hti : dp1 txt di := ht di (List.mem_of_getElem? hdi)
        have hit : ∀ {H3 : Hp} {p : Addr}, Same H H3 → H3 p = none → goodE (lastB ds i) di = false → Q (.ref p) (upd H3 p (.lst [.int (i : Nat)])) := fun {H3 p} h3 hp hg => by
          refine ret _ _ _ h3 hp ?_
          rw [e, fault_hit hf hdi hg]
          rfl
        have noE : isEntryD di = false → goodE (lastB ds i) di = false := fun h => by
          unfold goodE
          rw [h]
          rfl
        refine n_gtup (SqT.of upd_same) rfl ?_
        walk_at "run"
        refine n_isi hz2 (is_tuple di) ?_
        cases hz2 with
        | tup hs3 ha3 =>
          rename_i q vs3 fs
          have hl3 := DzA.len ha3
          have hti : ∀ f ∈ fs, txt f := hti
          walk_at "run"
          refine iteF ?_
          walk_at "run"
          refine ⟨_, _, rfl, Or.inr hs3, ?_⟩
          walk_at "run"
          refine n_ite (fun h3 => ?_) (fun h3 => ?_)
          · walk_at "run"
            refine ⟨(by show 1 ≤ sizeLine; decide), fun p hp => hit hS2 hp (noE ?_)⟩
            have h2 : fs.length ≠ 2 := fun e2 => by
              have := d_false (not_t h3)
              rw [hl3, e2] at this
              exact this rfl
            match fs, h2 with
            | [], _ => rfl
            | [_], _ => rfl
            | [_, _], h => exact absurd rfl h
            | _ :: _ :: _ :: _, _ => rfl
          walk_at "run"
          have h2 : fs.length = 2 := by
            have h4 := d_true (not_f h3)
            have : (vs3.length : Int) = 2 := by simpa using h4
            omega
          cases ha3 with
          | nil => exact absurd h2 (by decide)
          | cons a1 r =>
          cases r with
          | nil => exact absurd h2 (by simp)
          | cons a2 r =>
          cases r with
          | cons a3 r => exact absurd h2 (by simp)
          | nil =>
          rename_i v1 d1 v2 d2 _
          have en : isEntryD (.tuple [d1, d2]) = (isBadgeD d1 && isSizeD d2) := rfl
          refine n_ixT hs3 (show atI [v1, v2] 0 = some v1 from rfl) ?_
          walk_at "run"
          refine n_isi a1 (is_str d1) ?_
          have t1 := hti d1 List.mem_cons_self
          cases a1 with
          | str z =>
            have bz : isBadgeD (.str z) = (decide ((z.length : Int) = 1) && !decide (z.cps.toList < ("a" : Str).cps.toList) && !decide (("z" : Str).cps.toList < z.cps.toList)) := rfl
            walk_at "run"
            refine iteF ?_
            walk_at "run"
            refine n_ixT hs3 (show atI [V.str z, v2] 0 = some (V.str z) from rfl) ?_
            walk_at "run"
            refine ⟨z, rfl, Nat.le_trans t1 (by decide), ?_⟩
            walk_at "run"
            refine n_ite (fun h4 => ?_) (fun h4 => ?_)
            · walk_at "run"
              refine ⟨(by show 1 ≤ sizeLine; decide), fun p hp => hit hS2 hp (noE ?_)⟩
              have h5 : ¬ (z.length : Int) = 1 := fun q => d_false (not_t h4) (by rw [q])
              rw [en, bz, decide_eq_false h5]
              rfl
            have h5 : (z.length : Int) = 1 := by simpa using d_true (not_f h4)
            walk_at "run"
            refine n_ixT hs3 (show atI [V.str z, v2] 0 = some (V.str z) from rfl) ?_
            walk_at "run"
            refine ⟨_, _, rfl, rfl, ?_⟩
            walk_at "run"
            refine n_ite (fun h6 => ?_) (fun h6 => ?_)
            · walk_at "run"
              refine ⟨_, _, rfl, rfl, ?_⟩
              walk_at "run"
              refine n_ite (fun h7 => ?_) (fun h7 => ?_)
              · walk_at "run"
                refine ⟨(by show 1 ≤ sizeLine; decide), fun p hp => hit hS2 hp (noE ?_)⟩
                rw [en, bz, show (!decide (("z" : Str).cps.toList < z.cps.toList)) = false from not_t h7, Bool.and_false, Bool.false_and]
              walk_at "run"
              have bt : isBadgeD (.str z) = true := by
                rw [bz, decide_eq_true h5, h6, show (!decide (("z" : Str).cps.toList < z.cps.toList)) = true from not_f h7]
                rfl
              refine n_ixT hs3 (show atI [V.str z, v2] 0 = some (V.str z) from rfl) ?_
              walk_at "run"
              refine ⟨_, _, rfl, rfl, ?_⟩
              walk_at "run"
              refine n_ite (fun h8 => ?_) (fun h8 => ?_)
              · walk_at "run"
                refine ⟨(by show 1 ≤ sizeLine; decide), fun p hp => hit hS2 hp ?_⟩
                unfold goodE
                rw [← hb, show headS (.tuple [.str z, d2]) = z.cps.toList from rfl, show decide (b.cps.toList < z.cps.toList) = false from not_t h8, Bool.and_false]
              walk_at "run"
              refine n_ixT hs3 (show atI [V.str z, v2] 1 = some v2 from rfl) ?_
              walk_at "run"
              refine n_isi a2 (is_int d2) ?_
              have sz : isSizeD d2 = false → isEntryD (.tuple [.str z, d2]) = false := fun h => by rw [en, h, Bool.and_false]
              cases a2 with
              | int k =>
                walk_at "run"
                refine iteF ?_
                walk_at "run"
                refine n_ixT hs3 (show atI [V.str z, V.int k] 1 = some (V.int k) from rfl) ?_
                walk_at "run"
                refine n_isi (b := false) (.int k) (is_bool _) ?_
                walk_at "run"
                refine n_ixT hs3 (show atI [V.str z, V.int k] 1 = some (V.int k) from rfl) ?_
                walk_at "run"
                refine n_ite (fun h9 => ?_) (fun h9 => ?_)
                · walk_at "run"
                  refine n_ite (fun h10 => ?_) (fun h10 => ?_)
                  · walk_at "run"
                    refine ⟨(by show 1 ≤ sizeLine; decide), fun p hp => hit hS2 hp (noE (sz ?_))⟩
                    show (decide (0 ≤ k) && decide (k ≤ 5)) = false
                    rw [not_t h10, Bool.and_false]
                  walk_at "run"
                  refine n_ixT hs3 (show atI [V.str z, V.int k] 0 = some (V.str z) from rfl) ?_
                  walk_at "run"
                  have st : isSizeD (.int k) = true := by
                    show (decide (0 ≤ k) && decide (k ≤ 5)) = true
                    rw [h9, not_f h10]
                    rfl
                  obtain ⟨f1, f2⟩ := fault_go hf hdi (by
                    unfold goodE
                    rw [en, bt, st, ← hb]
                    exact not_f h8)
                  exact ⟨z, _, _, rfl, hS2, f1, f2.symm⟩
                · walk_at "run"
                  refine iteT ?_
                  walk_at "run"
                  refine ⟨(by show 1 ≤ sizeLine; decide), fun p hp => hit hS2 hp (noE (sz ?_))⟩
                  show (decide (0 ≤ k) && decide (k ≤ 5)) = false
                  rw [h9, Bool.false_and]
              | bl k =>
                walk_at "run"
                refine iteF ?_
                walk_at "run"
                refine n_ixT hs3 (show atI [V.str z, V.bl k] 1 = some (V.bl k) from rfl) ?_
                walk_at "run"
                refine n_isi (b := true) (.bl k) (is_bool _) ?_
                walk_at "run"
                exact ⟨(by show 1 ≤ sizeLine; decide), fun p hp => hit hS2 hp (noE (sz rfl))⟩
              | _ =>
                walk_at "run"
                refine iteT ?_
                walk_at "run"
                exact ⟨(by show 1 ≤ sizeLine; decide), fun p hp => hit hS2 hp (noE (sz rfl))⟩
            · walk_at "run"
              refine iteT ?_
              walk_at "run"
              refine ⟨(by show 1 ≤ sizeLine; decide), fun p hp => hit hS2 hp (noE ?_)⟩
              rw [en, bz, h6, Bool.and_false, Bool.false_and, Bool.false_and]
          | _ =>
            walk_at "run"
            refine iteT ?_
            walk_at "run"
            exact ⟨(by show 1 ≤ sizeLine; decide), fun p hp => hit hS2 hp (noE rfl)⟩
        | _ =>
          walk_at "run"
          refine iteT ?_
          walk_at "run"
          exact ⟨(by show 1 ≤ sizeLine; decide), fun p hp => hit hS2 hp (noE rfl)⟩
      · rintro σ H2 ⟨b, x2, x3, rfl, hS, hf, hb⟩
        rw [hl, List.take_length] at hf
        walk_at "run"
        refine ⟨(by show 0 ≤ sizeLine; exact Nat.zero_le _), fun p hp => go _ p (same_tr hS (same_new hp)) (same_none hS hp) ?_⟩
        unfold flF
        rw [e, hf]
        exact upd_same
    | _ =>
      walk_at "run"
      refine iteT ?_
      walk_at "run"
      exact ⟨(by show 1 ≤ sizeLine; decide), fun p hp => ret _ H p (fun _ _ h => h) hp rfl⟩
end

def byName {α : Type} (us ws : List α) : List α := match us with
  | [] => ws
  | _ :: _ => []
section
variable {P : Program} {w : World} {K : PySem.W.Frag} {mg : Str → Option Value} {base : Heap}
structure Gw (K : PySem.W.Frag) (mg : Str → Option Value) (C C2 B c1 c2 c3 : Addr) : Prop where
  g1 : mg "CrewError" = some (.ref c1)
  g2 : mg "StateError" = some (.ref c2)
  g3 : mg "MissingError" = some (.ref c3)
  gP : mg "InvalidPeople" = some (.ref C2)
  m : PySem.W.exmAny K (.ref C) [.ref c1, .ref c2, .ref c3] = some true
  mb : PySem.W.exmAny K (.ref B) [.ref c1, .ref c2, .ref c3] = some true
  i11 : PySem.W.kitOne K (.ref C) (.ref C) = some true
  ibb : PySem.W.kitOne K (.ref B) (.ref B) = some true
  i1b : PySem.W.kitOne K (.ref C) (.ref B) = some false
  ib2 : PySem.W.kitOne K (.ref B) (.ref C2) = some false
def spCk (K : PySem.W.Frag) : Sp := fun vs H Q _ => ∃ v d, vs = [v] ∧ Dz K H v d ∧ dp1 (dp1 txt) d ∧ ∀ H' p, Same H H' → H p = none → H' p = some (.lst (flF d)) → Q (.ref p) H'
theorem scCk : FnScope ["what", "caught", "found", "e"] ["what"] (defScope sChecked) := ⟨rfl, rfl, rfl, by decide +kernel, rfl, by decide +kernel, by decide +kernel⟩
theorem ok_ck {f fR C C2 B c1 c2 c3 fI : Addr} {fd fdR : FuncData} (F : Fun K "_law_checked" "_law_checked" sChecked f fd) (G : Gw K mg C C2 B c1 c2 c3) (mI : mg "isinstance" = none) (T : Ec K mg "InvalidRoster" C fI "entry")
    (NR : FnG P w K mg base 3 fR fdR ["roster"] (spCheckR K C)) (mR : mg "check_roster" = some (.ref fR)) (kR : PySem.W.keepIn K (.ref fR) = true) (kbR : KBinds K fdR ["roster"] ["roster"] byName byName) : FnG P w K mg base 4 f fd ["what"] (spCk K) := by
  refine def_ok F scCk (fun vs H Q E h => ?_) (fun cdv A fr s H vs Q E c h => ?_)
  · obtain ⟨_, _, rfl, _⟩ := h
    rfl
  · obtain ⟨v, d, rfl, hd, ht, go⟩ := h
    refine ⟨_, pss_cons (ps_asg (pe_tup (pa_cons pe_non (pa_cons pe_str pa_nil))) (pg_tup rfl (pgs_cons (pg_name (i := 1) scCk.nd rfl (Or.inl rfl)) (pgs_cons (pg_name (i := 2) scCk.nd rfl (Or.inl rfl)) pgs_nil))))
      (pss_cons (ps_keep (i := 3) rfl rfl rfl scCk.nd rfl rfl rfl G.g1 rfl G.g2 rfl G.g3
        (fun W pn xe tk => pss_one (ps_set (i := 2) scCk.nd rfl (Or.inl rfl) (pe_gk0 NR c rfl mR kR kbR (fun σ => passAt tk σ) (pk_cons (pv 0) pk_nil))))
        (fun a pn => pss_one (ps_set (i := 1) scCk.nd rfl (Or.inl rfl) (pv 3))))
      (pss_cons (ps_if (pt_cmpR op_isN (pv 1) pe_non (nomark _)) (pss_one (ps_ret (pe_ifExp (pt_cmpR op_isN (pv 2) pe_non (nomark _)) (pe_lst pa_nil) pe_str))) pss_nil)
      (pss_one (ps_ret (pe_ifExp (pt_val (pe_callB call_isx (by rfl) mI (by decide +kernel) (pa_cons (pv 1) (pa_cons (pe_glob (v := .ref C) rfl T.gC rfl) pa_nil)))) (pe_lst (pa_cons (pe_xo (pv 1)) pa_nil)) pe_str))))), ?_⟩
    walk_at "run"
    refine ⟨(by show 2 ≤ sizeLine; decide), fun t0 ht0 => ?_⟩
    walk_at "run"
    refine n_gtup (SqT.of upd_same) rfl ?_
    walk_at "run"
    have s0 := same_new (o := .tup [.non, .str "more"]) ht0
    refine ⟨v, d, rfl, hd.same s0, ht, ?_⟩
    cases e : faultD d with
    | none =>
      intro H' hS
      walk_at "run"
      refine ⟨rfl, ?_⟩
      walk_at "run"
      refine n_ite (fun _ => ?_) (fun h => absurd h (by simp))
      walk_at "run"
      refine ⟨rfl, ?_⟩
      walk_at "run"
      refine n_ite (fun _ => ?_) (fun h => absurd h (by simp))
      walk_at "run"
      refine ⟨(by show 0 ≤ sizeLine; exact Nat.zero_le _), fun p hp => go _ p (same_tr (same_tr s0 hS) (same_new hp)) (same_none (same_tr s0 hS) hp) ?_⟩
      unfold flF
      rw [e]
      exact upd_same
    | some x =>
      intro H' dx hS hdx hxd
      refine ⟨G.m, fun a ha => ?_⟩
      have nd : dx ≠ a := ne_of_none hxd ha
      have hxd2 : upd H' a (Xo a (.ref C) (some dx)) dx = some (.xd [("entry", x)]) := by rw [upd_ne nd]; exact hxd
      have sA := same_tr (same_tr s0 hS) (same_new (o := Xo a (.ref C) (some dx)) ha)
      walk_at "run"
      refine ⟨rfl, ?_⟩
      walk_at "run"
      refine n_ite (fun h => absurd h (by simp)) (fun _ => ?_)
      walk_at "run"
      refine ⟨a, C, dx, _, .ref C, .ref C, true, rfl, .own C, upd_same, hxd2, T.ec, G.i11, ?_⟩
      walk_at "run"
      refine ⟨a, C, dx, _, x, rfl, upd_same, hxd2, T.xf, T.nf, rfl, ?_⟩
      walk_at "run"
      refine ⟨(by show 1 ≤ sizeLine; decide), fun p hp => go _ p (same_tr sA (same_new hp)) (same_none sA hp) ?_⟩
      unfold flF
      rw [e]
      exact upd_same
/-- the word of size_of -/
def szW (d q : PyData) (u : V) : List V := match faultD d with
  | some x => [.str "roster", x]
  | none => match d with
    | .tuple ds => (match sizeIn ds q with
      | some x => [.str "size", x]
      | none => [.str "badge", u])
    | _ => []
def spSw (K : PySem.W.Frag) : Sp := fun vs H Q _ => ∃ (v : V) (d : PyData) (u : V) (q : PyData), vs = [v, u] ∧ Dz K H v d ∧ Dz K H u q ∧ dp1 (dp1 txt) d ∧ askD q ∧ ∀ H' p, Same H H' → H p = none → H' p = some (.lst (szW d q u)) → Q (.ref p) H'
theorem scSw : FnScope ["rules", "mark", "caught", "found", "e"] ["rules", "mark"] (defScope sSizeW) := ⟨rfl, rfl, rfl, by decide +kernel, rfl, by decide +kernel, by decide +kernel⟩
theorem ok_sw {f fS C C2 B c1 c2 c3 fI fI2 : Addr} {fd fdS : FuncData} (F : Fun K "_law_size_word" "_law_size_word" sSizeW f fd) (G : Gw K mg C C2 B c1 c2 c3) (mI : mg "isinstance" = none) (T : Ec K mg "InvalidRoster" C fI "entry") (TB : Ec K mg "InvalidBadge" B fI2 "badge")
    (NS : FnG P w K mg base 4 fS fdS ["roster", "badge"] (spSizeOf K C B)) (mS : mg "size_of" = some (.ref fS)) (kS : PySem.W.keepIn K (.ref fS) = true) (kbS : KBinds K fdS ["roster", "badge"] ["badge", "roster"] (fun us ws => us ++ ws.reverse) (fun us ws => us ++ ws.reverse)) :
    FnG P w K mg base 5 f fd ["rules", "mark"] (spSw K) := by
  refine def_ok F scSw (fun vs H Q E h => ?_) (fun cdv A fr s H vs Q E c h => ?_)
  · obtain ⟨_, _, _, _, rfl, _⟩ := h
    rfl
  · obtain ⟨v, d, u, q, rfl, hd, hu, ht, hq, go⟩ := h
    refine ⟨_, pss_cons (ps_asg (pe_tup (pa_cons pe_non (pa_cons pe_non pa_nil))) (pg_tup rfl (pgs_cons (pg_name (i := 2) scSw.nd rfl (Or.inl rfl)) (pgs_cons (pg_name (i := 3) scSw.nd rfl (Or.inl rfl)) pgs_nil))))
      (pss_cons (ps_keep (i := 4) rfl rfl rfl scSw.nd rfl rfl rfl G.g1 rfl G.g2 rfl G.g3
        (fun W pn xe tk => pss_one (ps_set (i := 3) scSw.nd rfl (Or.inl rfl) (pe_gk0 NS c rfl mS kS kbS (fun σ => passAt tk σ) (pk_cons (pv 1) (pk_cons (pv 0) pk_nil)))))
        (fun a pn => pss_one (ps_set (i := 2) scSw.nd rfl (Or.inl rfl) (pv 4))))
      (pss_cons (ps_if (pt_cmpR op_isN (pv 2) pe_non (nomark _)) (pss_one (ps_ret (pe_lst (pa_cons pe_str (pa_cons (pv 3) pa_nil))))) pss_nil)
      (pss_cons (ps_if (PW.pt (pw_and (pt_val (pe_callB call_isx (by rfl) mI (by decide +kernel) (pa_cons (pv 2) (pa_cons (pe_glob (v := .ref B) rfl TB.gC rfl) pa_nil)))) (pw_and1 (pt_not (pt_val (pe_callB call_isx (by rfl) mI (by decide +kernel) (pa_cons (pv 2) (pa_cons (pe_glob (v := .ref C2) rfl G.gP rfl) pa_nil))))))))
        (pss_one (ps_ret (pe_lst (pa_cons pe_str (pa_cons (pe_xo (pv 2)) pa_nil))))) pss_nil)
      (pss_one (ps_ret (pe_ifExp (pt_val (pe_callB call_isx (by rfl) mI (by decide +kernel) (pa_cons (pv 2) (pa_cons (pe_glob (v := .ref C) rfl T.gC rfl) pa_nil)))) (pe_lst (pa_cons pe_str (pa_cons (pe_xo (pv 2)) pa_nil))) (pe_lst (pa_cons pe_str pa_nil)))))))), ?_⟩
    walk_at "run"
    refine ⟨(by show 2 ≤ sizeLine; decide), fun t0 ht0 => ?_⟩
    walk_at "run"
    refine n_gtup (SqT.of upd_same) rfl ?_
    walk_at "run"
    have s0 := same_new (o := .tup [.non, .non]) ht0
    refine ⟨v, d, u, q, rfl, hd.same s0, hu.same s0, ht, hq, ?_⟩
    unfold szW at go
    cases e : faultD d with
    | some x =>
      rw [e] at go
      intro H' dx hS hdx hxd
      refine ⟨G.m, fun a ha => ?_⟩
      have nd : dx ≠ a := ne_of_none hxd ha
      have hxd2 : upd H' a (Xo a (.ref C) (some dx)) dx = some (.xd [("entry", x)]) := by rw [upd_ne nd]; exact hxd
      have sA := same_tr (same_tr s0 hS) (same_new (o := Xo a (.ref C) (some dx)) ha)
      walk_at "run"
      refine ⟨rfl, ?_⟩
      walk_at "run"
      refine n_ite (fun h => absurd h (by simp)) (fun _ => ?_)
      walk_at "run"
      refine ⟨a, C, dx, _, .ref B, .ref B, false, rfl, .own B, upd_same, hxd2, T.ec, G.i1b, ?_⟩
      walk_at "run"
      refine ⟨a, C, dx, _, .ref C, .ref C, true, rfl, .own C, upd_same, hxd2, T.ec, G.i11, ?_⟩
      walk_at "run"
      refine ⟨a, C, dx, _, x, rfl, upd_same, hxd2, T.xf, T.nf, rfl, ?_⟩
      walk_at "run"
      exact ⟨(by show 2 ≤ sizeLine; decide), fun p hp => go _ p (same_tr sA (same_new hp)) (same_none sA hp) upd_same⟩
    | none =>
      rw [e] at go
      cases hd with
      | tup hs ha =>
        rename_i a0 xs ds
        show match sizeIn ds q with
          | some x => _
          | none => _
        have go2 : ∀ H' p, Same H H' → H p = none → H' p = some (.lst (match sizeIn ds q with
          | some x => [.str "size", x]
          | none => [.str "badge", u])) → Q (.ref p) H' := go
        cases e2 : sizeIn ds q with
        | some x =>
          rw [e2] at go2
          intro H' hS
          walk_at "run"
          refine ⟨rfl, ?_⟩
          walk_at "run"
          refine n_ite (fun _ => ?_) (fun h => absurd h (by simp))
          walk_at "run"
          exact ⟨(by show 2 ≤ sizeLine; decide), fun p hp => go2 _ p (same_tr (same_tr s0 hS) (same_new hp)) (same_none (same_tr s0 hS) hp) upd_same⟩
        | none =>
          rw [e2] at go2
          intro H' dx hS hdx hxd
          refine ⟨G.mb, fun a ha => ?_⟩
          have nd : dx ≠ a := ne_of_none hxd ha
          have hxd2 : upd H' a (Xo a (.ref B) (some dx)) dx = some (.xd [("badge", u)]) := by rw [upd_ne nd]; exact hxd
          have sA := same_tr (same_tr s0 hS) (same_new (o := Xo a (.ref B) (some dx)) ha)
          walk_at "run"
          refine ⟨rfl, ?_⟩
          walk_at "run"
          refine n_ite (fun h => absurd h (by simp)) (fun _ => ?_)
          walk_at "run"
          refine ⟨a, B, dx, _, .ref B, .ref B, true, rfl, .own B, upd_same, hxd2, TB.ec, G.ibb, ?_⟩
          walk_at "run"
          refine ⟨a, B, dx, _, .ref C2, .ref C2, false, rfl, .own C2, upd_same, hxd2, TB.ec, G.ib2, ?_⟩
          walk_at "run"
          refine iteT ?_
          walk_at "run"
          refine ⟨a, B, dx, _, u, rfl, upd_same, hxd2, TB.xf, TB.nf, rfl, ?_⟩
          walk_at "run"
          exact ⟨(by show 2 ≤ sizeLine; decide), fun p hp => go2 _ p (same_tr sA (same_new hp)) (same_none sA hp) upd_same⟩
      | _ => cases e
end

structure Pk (H H' : Hp) (p cc : Addr) (m : Nat) : Prop where
  s : Same H H'
  d : Dr H' p cc m
theorem Pk.new {H H' : Hp} {p cc a : Addr} {m : Nat} {o : HO} (x : Pk H H' p cc m) (h : H' a = none) : Pk H (upd H' a o) p cc m := ⟨same_tr x.s (same_new h), x.d.new h⟩
def txtB : PyData → Bool
  | .str x => decide (x.length ≤ 100000)
  | _ => true
def dpB (p : PyData → Bool) : PyData → Bool
  | .tuple ds => ds.all p
  | _ => true
def gdR (l : PyData) : Prop := dp1 (dp1 txt) l ∧ dp1 txt l ∧ txt l
theorem txtB_ok {d : PyData} (h : txtB d = true) : txt d := by
  cases d with
  | str x => exact of_decide_eq_true (p := x.length ≤ 100000) h
  | _ => trivial
theorem dpB_ok {p : PyData → Bool} {q : PyData → Prop} (pq : ∀ d, p d = true → q d) {d : PyData} (h : dpB p d = true) : dp1 q d := by
  cases d with
  | tuple ds => exact fun e he => pq e (List.all_eq_true.mp h e he)
  | _ => trivial
theorem gdB_ok {d : PyData} (h : (dpB (dpB txtB) d && (dpB txtB d && txtB d)) = true) : gdR d := by
  rw [Bool.and_eq_true, Bool.and_eq_true] at h
  exact ⟨dpB_ok (fun _ => dpB_ok fun _ => txtB_ok) h.1, dpB_ok (fun _ => txtB_ok) h.2.1, txtB_ok h.2.2⟩
section
variable {P : Program} {w : World} {K : PySem.W.Frag} {mg : Str → Option Value} {base : Heap}
def spOdd (K : PySem.W.Frag) : Sp := fun vs H Q _ => ∃ (p cc : Addr) (m : Nat), vs = [.ref p] ∧ Dr H p cc m ∧ m ≤ 999999000 ∧ ∀ u l H', Dz K H' u l → gdR l → Dr H' p cc (m + 1) → Kp p H H' → Q u H'
theorem scOd : FnScope ["draw", "some"] ["draw"] (defScope sOdd) := ⟨rfl, rfl, rfl, by decide +kernel, rfl, by decide +kernel, by decide +kernel⟩
theorem ok_odd {f fN : Addr} {fd fdN : FuncData} (F : Fun K "_law_odd" "_law_odd" sOdd f fd) (mN : mg "_law_next" = some (.ref fN)) (N2 : FnG P w K mg base 2 fN fdN ["draw", "bound"] spNext) (kN : PySem.W.keepIn K (.ref fN) = true) (bN : Binds K fdN ["draw", "bound"] []) :
    FnG P w K mg base 3 f fd ["draw"] (spOdd K) := by
  refine def_ok F scOd (fun vs H Q E h => ?_) (fun cdv A fr s H vs Q E c h => ?_)
  · obtain ⟨_, _, _, rfl, _⟩ := h
    rfl
  · obtain ⟨p, cc, m, rfl, hD, hm, go⟩ := h
    refine ⟨_, pss_cons (ps_set (i := 1) scOd.nd rfl (Or.inl rfl) (pe_lst (pa_cons pe_non (pa_cons pe_bl (pa_cons pe_int (pa_cons pe_str (pa_cons pe_str (pa_cons (pe_tup pa_nil) (pa_cons (pe_lst pa_nil) (pa_cons pe_dnewK (pa_cons (pe_tup (pa_cons pe_str pa_nil)) (pa_cons (pe_tup (pa_cons pe_str (pa_cons pe_int (pa_cons pe_int pa_nil)))) (pa_cons (pe_lst (pa_cons pe_str (pa_cons pe_int pa_nil))) (pa_cons (pe_tup (pa_cons pe_str (pa_cons pe_int pa_nil))) (pa_cons (pe_tup (pa_cons pe_str (pa_cons pe_int pa_nil))) (pa_cons (pe_tup (pa_cons pe_int (pa_cons pe_int pa_nil))) pa_nil))))))))))))))))
      (pss_cons (ps_set (i := 1) scOd.nd rfl (Or.inl rfl) (pe_op op_cat (pv 1) (pe_lst (pa_cons (pe_tup (pa_cons pe_str (pa_cons pe_non pa_nil))) (pa_cons (pe_tup (pa_cons pe_str (pa_cons pe_bl pa_nil))) (pa_cons (pe_tup (pa_cons pe_str (pa_cons (pe_un un_neg pe_int) pa_nil))) (pa_cons (pe_tup (pa_cons pe_str (pa_cons pe_int pa_nil))) (pa_cons (pe_tup (pa_cons pe_str (pa_cons pe_int pa_nil))) (pa_cons (pe_tup (pa_cons pe_str (pa_cons pe_int pa_nil))) (pa_cons (pe_tup (pa_cons pe_str (pa_cons pe_int pa_nil))) (pa_cons (pe_tup (pa_cons (pe_tup (pa_cons pe_str (pa_cons pe_int pa_nil))) (pa_cons pe_int pa_nil))) pa_nil)))))))))))
      (pss_one (ps_ret (pe_ix ix_list (pv 1) (pe_g N2 c rfl mN kN bN quiets (pa_cons (pv 0) (pa_cons pe_int pa_nil))) (fun _ _ => rfl))))), ?_⟩
    have P0 : Pk H H p cc m := ⟨fun _ _ h => h, hD⟩
    walk_at "run"
    refine ⟨(by show 0 ≤ sizeLine; decide), fun a1 ha1 => ?_⟩
    have P1 := P0.new (o := .tup []) ha1
    have ka1 : upd _ a1 (.tup []) a1 = some (.tup []) := upd_same (H := H) (a := a1) (o := .tup [])
    generalize upd H a1 (.tup []) = G1 at P1 ka1 ⊢
    walk_at "run"
    refine ⟨(by show 0 ≤ sizeLine; decide), fun a2 ha2 => ?_⟩
    have P2 := P1.new (o := .lst []) ha2
    replace ka1 := same_new (o := .lst []) ha2 _ _ ka1
    have ka2 : upd _ a2 (.lst []) a2 = some (.lst []) := upd_same (H := G1) (a := a2) (o := .lst [])
    generalize upd G1 a2 (.lst []) = G2 at P2 ka1 ka2 ⊢
    walk_at "run"
    intro a3 ha3
    have P3 := P2.new (o := .dK []) ha3
    replace ka1 := same_new (o := .dK []) ha3 _ _ ka1
    replace ka2 := same_new (o := .dK []) ha3 _ _ ka2
    have ka3 : upd _ a3 (.dK []) a3 = some (.dK []) := upd_same (H := G2) (a := a3) (o := .dK [])
    generalize upd G2 a3 (.dK []) = G3 at P3 ka1 ka2 ka3 ⊢
    walk_at "run"
    refine ⟨(by show 1 ≤ sizeLine; decide), fun a4 ha4 => ?_⟩
    have P4 := P3.new (o := .tup [.str "a"]) ha4
    replace ka1 := same_new (o := .tup [.str "a"]) ha4 _ _ ka1
    replace ka2 := same_new (o := .tup [.str "a"]) ha4 _ _ ka2
    replace ka3 := same_new (o := .tup [.str "a"]) ha4 _ _ ka3
    have ka4 : upd _ a4 (.tup [.str "a"]) a4 = some (.tup [.str "a"]) := upd_same (H := G3) (a := a4) (o := .tup [.str "a"])
    generalize upd G3 a4 (.tup [.str "a"]) = G4 at P4 ka1 ka2 ka3 ka4 ⊢
    walk_at "run"
    refine ⟨(by show 3 ≤ sizeLine; decide), fun a5 ha5 => ?_⟩
    have P5 := P4.new (o := .tup [.str "a", .int 2, .int 2]) ha5
    replace ka1 := same_new (o := .tup [.str "a", .int 2, .int 2]) ha5 _ _ ka1
    replace ka2 := same_new (o := .tup [.str "a", .int 2, .int 2]) ha5 _ _ ka2
    replace ka3 := same_new (o := .tup [.str "a", .int 2, .int 2]) ha5 _ _ ka3
    replace ka4 := same_new (o := .tup [.str "a", .int 2, .int 2]) ha5 _ _ ka4
    have ka5 : upd _ a5 (.tup [.str "a", .int 2, .int 2]) a5 = some (.tup [.str "a", .int 2, .int 2]) := upd_same (H := G4) (a := a5) (o := .tup [.str "a", .int 2, .int 2])
    generalize upd G4 a5 (.tup [.str "a", .int 2, .int 2]) = G5 at P5 ka1 ka2 ka3 ka4 ka5 ⊢
    walk_at "run"
    refine ⟨(by show 2 ≤ sizeLine; decide), fun a6 ha6 => ?_⟩
    have P6 := P5.new (o := .lst [.str "a", .int 2]) ha6
    replace ka1 := same_new (o := .lst [.str "a", .int 2]) ha6 _ _ ka1
    replace ka2 := same_new (o := .lst [.str "a", .int 2]) ha6 _ _ ka2
    replace ka3 := same_new (o := .lst [.str "a", .int 2]) ha6 _ _ ka3
    replace ka4 := same_new (o := .lst [.str "a", .int 2]) ha6 _ _ ka4
    replace ka5 := same_new (o := .lst [.str "a", .int 2]) ha6 _ _ ka5
    have ka6 : upd _ a6 (.lst [.str "a", .int 2]) a6 = some (.lst [.str "a", .int 2]) := upd_same (H := G5) (a := a6) (o := .lst [.str "a", .int 2])
    generalize upd G5 a6 (.lst [.str "a", .int 2]) = G6 at P6 ka1 ka2 ka3 ka4 ka5 ka6 ⊢
    walk_at "run"
    refine ⟨(by show 2 ≤ sizeLine; decide), fun a7 ha7 => ?_⟩
    have P7 := P6.new (o := .tup [.str "A", .int 2]) ha7
    replace ka1 := same_new (o := .tup [.str "A", .int 2]) ha7 _ _ ka1
    replace ka2 := same_new (o := .tup [.str "A", .int 2]) ha7 _ _ ka2
    replace ka3 := same_new (o := .tup [.str "A", .int 2]) ha7 _ _ ka3
    replace ka4 := same_new (o := .tup [.str "A", .int 2]) ha7 _ _ ka4
    replace ka5 := same_new (o := .tup [.str "A", .int 2]) ha7 _ _ ka5
    replace ka6 := same_new (o := .tup [.str "A", .int 2]) ha7 _ _ ka6
    have ka7 : upd _ a7 (.tup [.str "A", .int 2]) a7 = some (.tup [.str "A", .int 2]) := upd_same (H := G6) (a := a7) (o := .tup [.str "A", .int 2])
    generalize upd G6 a7 (.tup [.str "A", .int 2]) = G7 at P7 ka1 ka2 ka3 ka4 ka5 ka6 ka7 ⊢
    walk_at "run"
    refine ⟨(by show 2 ≤ sizeLine; decide), fun a8 ha8 => ?_⟩
    have P8 := P7.new (o := .tup [.str "ab", .int 2]) ha8
    replace ka1 := same_new (o := .tup [.str "ab", .int 2]) ha8 _ _ ka1
    replace ka2 := same_new (o := .tup [.str "ab", .int 2]) ha8 _ _ ka2
    replace ka3 := same_new (o := .tup [.str "ab", .int 2]) ha8 _ _ ka3
    replace ka4 := same_new (o := .tup [.str "ab", .int 2]) ha8 _ _ ka4
    replace ka5 := same_new (o := .tup [.str "ab", .int 2]) ha8 _ _ ka5
    replace ka6 := same_new (o := .tup [.str "ab", .int 2]) ha8 _ _ ka6
    replace ka7 := same_new (o := .tup [.str "ab", .int 2]) ha8 _ _ ka7
    have ka8 : upd _ a8 (.tup [.str "ab", .int 2]) a8 = some (.tup [.str "ab", .int 2]) := upd_same (H := G7) (a := a8) (o := .tup [.str "ab", .int 2])
    generalize upd G7 a8 (.tup [.str "ab", .int 2]) = G8 at P8 ka1 ka2 ka3 ka4 ka5 ka6 ka7 ka8 ⊢
    walk_at "run"
    refine ⟨(by show 2 ≤ sizeLine; decide), fun a9 ha9 => ?_⟩
    have P9 := P8.new (o := .tup [.int 1, .int 2]) ha9
    replace ka1 := same_new (o := .tup [.int 1, .int 2]) ha9 _ _ ka1
    replace ka2 := same_new (o := .tup [.int 1, .int 2]) ha9 _ _ ka2
    replace ka3 := same_new (o := .tup [.int 1, .int 2]) ha9 _ _ ka3
    replace ka4 := same_new (o := .tup [.int 1, .int 2]) ha9 _ _ ka4
    replace ka5 := same_new (o := .tup [.int 1, .int 2]) ha9 _ _ ka5
    replace ka6 := same_new (o := .tup [.int 1, .int 2]) ha9 _ _ ka6
    replace ka7 := same_new (o := .tup [.int 1, .int 2]) ha9 _ _ ka7
    replace ka8 := same_new (o := .tup [.int 1, .int 2]) ha9 _ _ ka8
    have ka9 : upd _ a9 (.tup [.int 1, .int 2]) a9 = some (.tup [.int 1, .int 2]) := upd_same (H := G8) (a := a9) (o := .tup [.int 1, .int 2])
    generalize upd G8 a9 (.tup [.int 1, .int 2]) = G9 at P9 ka1 ka2 ka3 ka4 ka5 ka6 ka7 ka8 ka9 ⊢
    walk_at "run"
    refine ⟨(by show 14 ≤ sizeLine; decide), fun a10 ha10 => ?_⟩
    have P10 := P9.new (o := .lst [.non, .bl true, .int 2, .str "a", .str "", .ref a1, .ref a2, .ref a3, .ref a4, .ref a5, .ref a6, .ref a7, .ref a8, .ref a9]) ha10
    replace ka1 := same_new (o := .lst [.non, .bl true, .int 2, .str "a", .str "", .ref a1, .ref a2, .ref a3, .ref a4, .ref a5, .ref a6, .ref a7, .ref a8, .ref a9]) ha10 _ _ ka1
    replace ka2 := same_new (o := .lst [.non, .bl true, .int 2, .str "a", .str "", .ref a1, .ref a2, .ref a3, .ref a4, .ref a5, .ref a6, .ref a7, .ref a8, .ref a9]) ha10 _ _ ka2
    replace ka3 := same_new (o := .lst [.non, .bl true, .int 2, .str "a", .str "", .ref a1, .ref a2, .ref a3, .ref a4, .ref a5, .ref a6, .ref a7, .ref a8, .ref a9]) ha10 _ _ ka3
    replace ka4 := same_new (o := .lst [.non, .bl true, .int 2, .str "a", .str "", .ref a1, .ref a2, .ref a3, .ref a4, .ref a5, .ref a6, .ref a7, .ref a8, .ref a9]) ha10 _ _ ka4
    replace ka5 := same_new (o := .lst [.non, .bl true, .int 2, .str "a", .str "", .ref a1, .ref a2, .ref a3, .ref a4, .ref a5, .ref a6, .ref a7, .ref a8, .ref a9]) ha10 _ _ ka5
    replace ka6 := same_new (o := .lst [.non, .bl true, .int 2, .str "a", .str "", .ref a1, .ref a2, .ref a3, .ref a4, .ref a5, .ref a6, .ref a7, .ref a8, .ref a9]) ha10 _ _ ka6
    replace ka7 := same_new (o := .lst [.non, .bl true, .int 2, .str "a", .str "", .ref a1, .ref a2, .ref a3, .ref a4, .ref a5, .ref a6, .ref a7, .ref a8, .ref a9]) ha10 _ _ ka7
    replace ka8 := same_new (o := .lst [.non, .bl true, .int 2, .str "a", .str "", .ref a1, .ref a2, .ref a3, .ref a4, .ref a5, .ref a6, .ref a7, .ref a8, .ref a9]) ha10 _ _ ka8
    replace ka9 := same_new (o := .lst [.non, .bl true, .int 2, .str "a", .str "", .ref a1, .ref a2, .ref a3, .ref a4, .ref a5, .ref a6, .ref a7, .ref a8, .ref a9]) ha10 _ _ ka9
    have ka10 : upd _ a10 (.lst [.non, .bl true, .int 2, .str "a", .str "", .ref a1, .ref a2, .ref a3, .ref a4, .ref a5, .ref a6, .ref a7, .ref a8, .ref a9]) a10 = some (.lst [.non, .bl true, .int 2, .str "a", .str "", .ref a1, .ref a2, .ref a3, .ref a4, .ref a5, .ref a6, .ref a7, .ref a8, .ref a9]) := upd_same (H := G9) (a := a10) (o := .lst [.non, .bl true, .int 2, .str "a", .str "", .ref a1, .ref a2, .ref a3, .ref a4, .ref a5, .ref a6, .ref a7, .ref a8, .ref a9])
    generalize upd G9 a10 (.lst [.non, .bl true, .int 2, .str "a", .str "", .ref a1, .ref a2, .ref a3, .ref a4, .ref a5, .ref a6, .ref a7, .ref a8, .ref a9]) = G10 at P10 ka1 ka2 ka3 ka4 ka5 ka6 ka7 ka8 ka9 ka10 ⊢
    walk_at "run"
    refine ⟨(by show 2 ≤ sizeLine; decide), fun a11 ha11 => ?_⟩
    have P11 := P10.new (o := .tup [.str "a", .non]) ha11
    replace ka1 := same_new (o := .tup [.str "a", .non]) ha11 _ _ ka1
    replace ka2 := same_new (o := .tup [.str "a", .non]) ha11 _ _ ka2
    replace ka3 := same_new (o := .tup [.str "a", .non]) ha11 _ _ ka3
    replace ka4 := same_new (o := .tup [.str "a", .non]) ha11 _ _ ka4
    replace ka5 := same_new (o := .tup [.str "a", .non]) ha11 _ _ ka5
    replace ka6 := same_new (o := .tup [.str "a", .non]) ha11 _ _ ka6
    replace ka7 := same_new (o := .tup [.str "a", .non]) ha11 _ _ ka7
    replace ka8 := same_new (o := .tup [.str "a", .non]) ha11 _ _ ka8
    replace ka9 := same_new (o := .tup [.str "a", .non]) ha11 _ _ ka9
    replace ka10 := same_new (o := .tup [.str "a", .non]) ha11 _ _ ka10
    have ka11 : upd _ a11 (.tup [.str "a", .non]) a11 = some (.tup [.str "a", .non]) := upd_same (H := G10) (a := a11) (o := .tup [.str "a", .non])
    generalize upd G10 a11 (.tup [.str "a", .non]) = G11 at P11 ka1 ka2 ka3 ka4 ka5 ka6 ka7 ka8 ka9 ka10 ka11 ⊢
    walk_at "run"
    refine ⟨(by show 2 ≤ sizeLine; decide), fun a12 ha12 => ?_⟩
    have P12 := P11.new (o := .tup [.str "a", .bl true]) ha12
    replace ka1 := same_new (o := .tup [.str "a", .bl true]) ha12 _ _ ka1
    replace ka2 := same_new (o := .tup [.str "a", .bl true]) ha12 _ _ ka2
    replace ka3 := same_new (o := .tup [.str "a", .bl true]) ha12 _ _ ka3
    replace ka4 := same_new (o := .tup [.str "a", .bl true]) ha12 _ _ ka4
    replace ka5 := same_new (o := .tup [.str "a", .bl true]) ha12 _ _ ka5
    replace ka6 := same_new (o := .tup [.str "a", .bl true]) ha12 _ _ ka6
    replace ka7 := same_new (o := .tup [.str "a", .bl true]) ha12 _ _ ka7
    replace ka8 := same_new (o := .tup [.str "a", .bl true]) ha12 _ _ ka8
    replace ka9 := same_new (o := .tup [.str "a", .bl true]) ha12 _ _ ka9
    replace ka10 := same_new (o := .tup [.str "a", .bl true]) ha12 _ _ ka10
    replace ka11 := same_new (o := .tup [.str "a", .bl true]) ha12 _ _ ka11
    have ka12 : upd _ a12 (.tup [.str "a", .bl true]) a12 = some (.tup [.str "a", .bl true]) := upd_same (H := G11) (a := a12) (o := .tup [.str "a", .bl true])
    generalize upd G11 a12 (.tup [.str "a", .bl true]) = G12 at P12 ka1 ka2 ka3 ka4 ka5 ka6 ka7 ka8 ka9 ka10 ka11 ka12 ⊢
    walk_at "run"
    refine ⟨(by show 2 ≤ sizeLine; decide), fun a13 ha13 => ?_⟩
    have P13 := P12.new (o := .tup [.str "a", .int (-1)]) ha13
    replace ka1 := same_new (o := .tup [.str "a", .int (-1)]) ha13 _ _ ka1
    replace ka2 := same_new (o := .tup [.str "a", .int (-1)]) ha13 _ _ ka2
    replace ka3 := same_new (o := .tup [.str "a", .int (-1)]) ha13 _ _ ka3
    replace ka4 := same_new (o := .tup [.str "a", .int (-1)]) ha13 _ _ ka4
    replace ka5 := same_new (o := .tup [.str "a", .int (-1)]) ha13 _ _ ka5
    replace ka6 := same_new (o := .tup [.str "a", .int (-1)]) ha13 _ _ ka6
    replace ka7 := same_new (o := .tup [.str "a", .int (-1)]) ha13 _ _ ka7
    replace ka8 := same_new (o := .tup [.str "a", .int (-1)]) ha13 _ _ ka8
    replace ka9 := same_new (o := .tup [.str "a", .int (-1)]) ha13 _ _ ka9
    replace ka10 := same_new (o := .tup [.str "a", .int (-1)]) ha13 _ _ ka10
    replace ka11 := same_new (o := .tup [.str "a", .int (-1)]) ha13 _ _ ka11
    replace ka12 := same_new (o := .tup [.str "a", .int (-1)]) ha13 _ _ ka12
    have ka13 : upd _ a13 (.tup [.str "a", .int (-1)]) a13 = some (.tup [.str "a", .int (-1)]) := upd_same (H := G12) (a := a13) (o := .tup [.str "a", .int (-1)])
    generalize upd G12 a13 (.tup [.str "a", .int (-1)]) = G13 at P13 ka1 ka2 ka3 ka4 ka5 ka6 ka7 ka8 ka9 ka10 ka11 ka12 ka13 ⊢
    walk_at "run"
    refine ⟨(by show 2 ≤ sizeLine; decide), fun a14 ha14 => ?_⟩
    have P14 := P13.new (o := .tup [.str "a", .int 6]) ha14
    replace ka1 := same_new (o := .tup [.str "a", .int 6]) ha14 _ _ ka1
    replace ka2 := same_new (o := .tup [.str "a", .int 6]) ha14 _ _ ka2
    replace ka3 := same_new (o := .tup [.str "a", .int 6]) ha14 _ _ ka3
    replace ka4 := same_new (o := .tup [.str "a", .int 6]) ha14 _ _ ka4
    replace ka5 := same_new (o := .tup [.str "a", .int 6]) ha14 _ _ ka5
    replace ka6 := same_new (o := .tup [.str "a", .int 6]) ha14 _ _ ka6
    replace ka7 := same_new (o := .tup [.str "a", .int 6]) ha14 _ _ ka7
    replace ka8 := same_new (o := .tup [.str "a", .int 6]) ha14 _ _ ka8
    replace ka9 := same_new (o := .tup [.str "a", .int 6]) ha14 _ _ ka9
    replace ka10 := same_new (o := .tup [.str "a", .int 6]) ha14 _ _ ka10
    replace ka11 := same_new (o := .tup [.str "a", .int 6]) ha14 _ _ ka11
    replace ka12 := same_new (o := .tup [.str "a", .int 6]) ha14 _ _ ka12
    replace ka13 := same_new (o := .tup [.str "a", .int 6]) ha14 _ _ ka13
    have ka14 : upd _ a14 (.tup [.str "a", .int 6]) a14 = some (.tup [.str "a", .int 6]) := upd_same (H := G13) (a := a14) (o := .tup [.str "a", .int 6])
    generalize upd G13 a14 (.tup [.str "a", .int 6]) = G14 at P14 ka1 ka2 ka3 ka4 ka5 ka6 ka7 ka8 ka9 ka10 ka11 ka12 ka13 ka14 ⊢
    walk_at "run"
    refine ⟨(by show 2 ≤ sizeLine; decide), fun a15 ha15 => ?_⟩
    have P15 := P14.new (o := .tup [.str "", .int 1]) ha15
    replace ka1 := same_new (o := .tup [.str "", .int 1]) ha15 _ _ ka1
    replace ka2 := same_new (o := .tup [.str "", .int 1]) ha15 _ _ ka2
    replace ka3 := same_new (o := .tup [.str "", .int 1]) ha15 _ _ ka3
    replace ka4 := same_new (o := .tup [.str "", .int 1]) ha15 _ _ ka4
    replace ka5 := same_new (o := .tup [.str "", .int 1]) ha15 _ _ ka5
    replace ka6 := same_new (o := .tup [.str "", .int 1]) ha15 _ _ ka6
    replace ka7 := same_new (o := .tup [.str "", .int 1]) ha15 _ _ ka7
    replace ka8 := same_new (o := .tup [.str "", .int 1]) ha15 _ _ ka8
    replace ka9 := same_new (o := .tup [.str "", .int 1]) ha15 _ _ ka9
    replace ka10 := same_new (o := .tup [.str "", .int 1]) ha15 _ _ ka10
    replace ka11 := same_new (o := .tup [.str "", .int 1]) ha15 _ _ ka11
    replace ka12 := same_new (o := .tup [.str "", .int 1]) ha15 _ _ ka12
    replace ka13 := same_new (o := .tup [.str "", .int 1]) ha15 _ _ ka13
    replace ka14 := same_new (o := .tup [.str "", .int 1]) ha15 _ _ ka14
    have ka15 : upd _ a15 (.tup [.str "", .int 1]) a15 = some (.tup [.str "", .int 1]) := upd_same (H := G14) (a := a15) (o := .tup [.str "", .int 1])
    generalize upd G14 a15 (.tup [.str "", .int 1]) = G15 at P15 ka1 ka2 ka3 ka4 ka5 ka6 ka7 ka8 ka9 ka10 ka11 ka12 ka13 ka14 ka15 ⊢
    walk_at "run"
    refine ⟨(by show 2 ≤ sizeLine; decide), fun a16 ha16 => ?_⟩
    have P16 := P15.new (o := .tup [.str "{", .int 1]) ha16
    replace ka1 := same_new (o := .tup [.str "{", .int 1]) ha16 _ _ ka1
    replace ka2 := same_new (o := .tup [.str "{", .int 1]) ha16 _ _ ka2
    replace ka3 := same_new (o := .tup [.str "{", .int 1]) ha16 _ _ ka3
    replace ka4 := same_new (o := .tup [.str "{", .int 1]) ha16 _ _ ka4
    replace ka5 := same_new (o := .tup [.str "{", .int 1]) ha16 _ _ ka5
    replace ka6 := same_new (o := .tup [.str "{", .int 1]) ha16 _ _ ka6
    replace ka7 := same_new (o := .tup [.str "{", .int 1]) ha16 _ _ ka7
    replace ka8 := same_new (o := .tup [.str "{", .int 1]) ha16 _ _ ka8
    replace ka9 := same_new (o := .tup [.str "{", .int 1]) ha16 _ _ ka9
    replace ka10 := same_new (o := .tup [.str "{", .int 1]) ha16 _ _ ka10
    replace ka11 := same_new (o := .tup [.str "{", .int 1]) ha16 _ _ ka11
    replace ka12 := same_new (o := .tup [.str "{", .int 1]) ha16 _ _ ka12
    replace ka13 := same_new (o := .tup [.str "{", .int 1]) ha16 _ _ ka13
    replace ka14 := same_new (o := .tup [.str "{", .int 1]) ha16 _ _ ka14
    replace ka15 := same_new (o := .tup [.str "{", .int 1]) ha16 _ _ ka15
    have ka16 : upd _ a16 (.tup [.str "{", .int 1]) a16 = some (.tup [.str "{", .int 1]) := upd_same (H := G15) (a := a16) (o := .tup [.str "{", .int 1])
    generalize upd G15 a16 (.tup [.str "{", .int 1]) = G16 at P16 ka1 ka2 ka3 ka4 ka5 ka6 ka7 ka8 ka9 ka10 ka11 ka12 ka13 ka14 ka15 ka16 ⊢
    walk_at "run"
    refine ⟨(by show 2 ≤ sizeLine; decide), fun a17 ha17 => ?_⟩
    have P17 := P16.new (o := .tup [.str "`", .int 1]) ha17
    replace ka1 := same_new (o := .tup [.str "`", .int 1]) ha17 _ _ ka1
    replace ka2 := same_new (o := .tup [.str "`", .int 1]) ha17 _ _ ka2
    replace ka3 := same_new (o := .tup [.str "`", .int 1]) ha17 _ _ ka3
    replace ka4 := same_new (o := .tup [.str "`", .int 1]) ha17 _ _ ka4
    replace ka5 := same_new (o := .tup [.str "`", .int 1]) ha17 _ _ ka5
    replace ka6 := same_new (o := .tup [.str "`", .int 1]) ha17 _ _ ka6
    replace ka7 := same_new (o := .tup [.str "`", .int 1]) ha17 _ _ ka7
    replace ka8 := same_new (o := .tup [.str "`", .int 1]) ha17 _ _ ka8
    replace ka9 := same_new (o := .tup [.str "`", .int 1]) ha17 _ _ ka9
    replace ka10 := same_new (o := .tup [.str "`", .int 1]) ha17 _ _ ka10
    replace ka11 := same_new (o := .tup [.str "`", .int 1]) ha17 _ _ ka11
    replace ka12 := same_new (o := .tup [.str "`", .int 1]) ha17 _ _ ka12
    replace ka13 := same_new (o := .tup [.str "`", .int 1]) ha17 _ _ ka13
    replace ka14 := same_new (o := .tup [.str "`", .int 1]) ha17 _ _ ka14
    replace ka15 := same_new (o := .tup [.str "`", .int 1]) ha17 _ _ ka15
    replace ka16 := same_new (o := .tup [.str "`", .int 1]) ha17 _ _ ka16
    have ka17 : upd _ a17 (.tup [.str "`", .int 1]) a17 = some (.tup [.str "`", .int 1]) := upd_same (H := G16) (a := a17) (o := .tup [.str "`", .int 1])
    generalize upd G16 a17 (.tup [.str "`", .int 1]) = G17 at P17 ka1 ka2 ka3 ka4 ka5 ka6 ka7 ka8 ka9 ka10 ka11 ka12 ka13 ka14 ka15 ka16 ka17 ⊢
    walk_at "run"
    refine ⟨(by show 2 ≤ sizeLine; decide), fun a18 ha18 => ?_⟩
    have P18 := P17.new (o := .tup [.str "a", .int 1]) ha18
    replace ka1 := same_new (o := .tup [.str "a", .int 1]) ha18 _ _ ka1
    replace ka2 := same_new (o := .tup [.str "a", .int 1]) ha18 _ _ ka2
    replace ka3 := same_new (o := .tup [.str "a", .int 1]) ha18 _ _ ka3
    replace ka4 := same_new (o := .tup [.str "a", .int 1]) ha18 _ _ ka4
    replace ka5 := same_new (o := .tup [.str "a", .int 1]) ha18 _ _ ka5
    replace ka6 := same_new (o := .tup [.str "a", .int 1]) ha18 _ _ ka6
    replace ka7 := same_new (o := .tup [.str "a", .int 1]) ha18 _ _ ka7
    replace ka8 := same_new (o := .tup [.str "a", .int 1]) ha18 _ _ ka8
    replace ka9 := same_new (o := .tup [.str "a", .int 1]) ha18 _ _ ka9
    replace ka10 := same_new (o := .tup [.str "a", .int 1]) ha18 _ _ ka10
    replace ka11 := same_new (o := .tup [.str "a", .int 1]) ha18 _ _ ka11
    replace ka12 := same_new (o := .tup [.str "a", .int 1]) ha18 _ _ ka12
    replace ka13 := same_new (o := .tup [.str "a", .int 1]) ha18 _ _ ka13
    replace ka14 := same_new (o := .tup [.str "a", .int 1]) ha18 _ _ ka14
    replace ka15 := same_new (o := .tup [.str "a", .int 1]) ha18 _ _ ka15
    replace ka16 := same_new (o := .tup [.str "a", .int 1]) ha18 _ _ ka16
    replace ka17 := same_new (o := .tup [.str "a", .int 1]) ha18 _ _ ka17
    have ka18 : upd _ a18 (.tup [.str "a", .int 1]) a18 = some (.tup [.str "a", .int 1]) := upd_same (H := G17) (a := a18) (o := .tup [.str "a", .int 1])
    generalize upd G17 a18 (.tup [.str "a", .int 1]) = G18 at P18 ka1 ka2 ka3 ka4 ka5 ka6 ka7 ka8 ka9 ka10 ka11 ka12 ka13 ka14 ka15 ka16 ka17 ka18 ⊢
    walk_at "run"
    refine ⟨(by show 2 ≤ sizeLine; decide), fun a19 ha19 => ?_⟩
    have P19 := P18.new (o := .tup [.ref a18, .int 1]) ha19
    replace ka1 := same_new (o := .tup [.ref a18, .int 1]) ha19 _ _ ka1
    replace ka2 := same_new (o := .tup [.ref a18, .int 1]) ha19 _ _ ka2
    replace ka3 := same_new (o := .tup [.ref a18, .int 1]) ha19 _ _ ka3
    replace ka4 := same_new (o := .tup [.ref a18, .int 1]) ha19 _ _ ka4
    replace ka5 := same_new (o := .tup [.ref a18, .int 1]) ha19 _ _ ka5
    replace ka6 := same_new (o := .tup [.ref a18, .int 1]) ha19 _ _ ka6
    replace ka7 := same_new (o := .tup [.ref a18, .int 1]) ha19 _ _ ka7
    replace ka8 := same_new (o := .tup [.ref a18, .int 1]) ha19 _ _ ka8
    replace ka9 := same_new (o := .tup [.ref a18, .int 1]) ha19 _ _ ka9
    replace ka10 := same_new (o := .tup [.ref a18, .int 1]) ha19 _ _ ka10
    replace ka11 := same_new (o := .tup [.ref a18, .int 1]) ha19 _ _ ka11
    replace ka12 := same_new (o := .tup [.ref a18, .int 1]) ha19 _ _ ka12
    replace ka13 := same_new (o := .tup [.ref a18, .int 1]) ha19 _ _ ka13
    replace ka14 := same_new (o := .tup [.ref a18, .int 1]) ha19 _ _ ka14
    replace ka15 := same_new (o := .tup [.ref a18, .int 1]) ha19 _ _ ka15
    replace ka16 := same_new (o := .tup [.ref a18, .int 1]) ha19 _ _ ka16
    replace ka17 := same_new (o := .tup [.ref a18, .int 1]) ha19 _ _ ka17
    replace ka18 := same_new (o := .tup [.ref a18, .int 1]) ha19 _ _ ka18
    have ka19 : upd _ a19 (.tup [.ref a18, .int 1]) a19 = some (.tup [.ref a18, .int 1]) := upd_same (H := G18) (a := a19) (o := .tup [.ref a18, .int 1])
    generalize upd G18 a19 (.tup [.ref a18, .int 1]) = G19 at P19 ka1 ka2 ka3 ka4 ka5 ka6 ka7 ka8 ka9 ka10 ka11 ka12 ka13 ka14 ka15 ka16 ka17 ka18 ka19 ⊢
    walk_at "run"
    refine ⟨(by show 8 ≤ sizeLine; decide), fun a20 ha20 => ?_⟩
    have P20 := P19.new (o := .lst [.ref a11, .ref a12, .ref a13, .ref a14, .ref a15, .ref a16, .ref a17, .ref a19]) ha20
    replace ka1 := same_new (o := .lst [.ref a11, .ref a12, .ref a13, .ref a14, .ref a15, .ref a16, .ref a17, .ref a19]) ha20 _ _ ka1
    replace ka2 := same_new (o := .lst [.ref a11, .ref a12, .ref a13, .ref a14, .ref a15, .ref a16, .ref a17, .ref a19]) ha20 _ _ ka2
    replace ka3 := same_new (o := .lst [.ref a11, .ref a12, .ref a13, .ref a14, .ref a15, .ref a16, .ref a17, .ref a19]) ha20 _ _ ka3
    replace ka4 := same_new (o := .lst [.ref a11, .ref a12, .ref a13, .ref a14, .ref a15, .ref a16, .ref a17, .ref a19]) ha20 _ _ ka4
    replace ka5 := same_new (o := .lst [.ref a11, .ref a12, .ref a13, .ref a14, .ref a15, .ref a16, .ref a17, .ref a19]) ha20 _ _ ka5
    replace ka6 := same_new (o := .lst [.ref a11, .ref a12, .ref a13, .ref a14, .ref a15, .ref a16, .ref a17, .ref a19]) ha20 _ _ ka6
    replace ka7 := same_new (o := .lst [.ref a11, .ref a12, .ref a13, .ref a14, .ref a15, .ref a16, .ref a17, .ref a19]) ha20 _ _ ka7
    replace ka8 := same_new (o := .lst [.ref a11, .ref a12, .ref a13, .ref a14, .ref a15, .ref a16, .ref a17, .ref a19]) ha20 _ _ ka8
    replace ka9 := same_new (o := .lst [.ref a11, .ref a12, .ref a13, .ref a14, .ref a15, .ref a16, .ref a17, .ref a19]) ha20 _ _ ka9
    replace ka10 := same_new (o := .lst [.ref a11, .ref a12, .ref a13, .ref a14, .ref a15, .ref a16, .ref a17, .ref a19]) ha20 _ _ ka10
    replace ka11 := same_new (o := .lst [.ref a11, .ref a12, .ref a13, .ref a14, .ref a15, .ref a16, .ref a17, .ref a19]) ha20 _ _ ka11
    replace ka12 := same_new (o := .lst [.ref a11, .ref a12, .ref a13, .ref a14, .ref a15, .ref a16, .ref a17, .ref a19]) ha20 _ _ ka12
    replace ka13 := same_new (o := .lst [.ref a11, .ref a12, .ref a13, .ref a14, .ref a15, .ref a16, .ref a17, .ref a19]) ha20 _ _ ka13
    replace ka14 := same_new (o := .lst [.ref a11, .ref a12, .ref a13, .ref a14, .ref a15, .ref a16, .ref a17, .ref a19]) ha20 _ _ ka14
    replace ka15 := same_new (o := .lst [.ref a11, .ref a12, .ref a13, .ref a14, .ref a15, .ref a16, .ref a17, .ref a19]) ha20 _ _ ka15
    replace ka16 := same_new (o := .lst [.ref a11, .ref a12, .ref a13, .ref a14, .ref a15, .ref a16, .ref a17, .ref a19]) ha20 _ _ ka16
    replace ka17 := same_new (o := .lst [.ref a11, .ref a12, .ref a13, .ref a14, .ref a15, .ref a16, .ref a17, .ref a19]) ha20 _ _ ka17
    replace ka18 := same_new (o := .lst [.ref a11, .ref a12, .ref a13, .ref a14, .ref a15, .ref a16, .ref a17, .ref a19]) ha20 _ _ ka18
    replace ka19 := same_new (o := .lst [.ref a11, .ref a12, .ref a13, .ref a14, .ref a15, .ref a16, .ref a17, .ref a19]) ha20 _ _ ka19
    have ka20 : upd _ a20 (.lst [.ref a11, .ref a12, .ref a13, .ref a14, .ref a15, .ref a16, .ref a17, .ref a19]) a20 = some (.lst [.ref a11, .ref a12, .ref a13, .ref a14, .ref a15, .ref a16, .ref a17, .ref a19]) := upd_same (H := G19) (a := a20) (o := .lst [.ref a11, .ref a12, .ref a13, .ref a14, .ref a15, .ref a16, .ref a17, .ref a19])
    generalize upd G19 a20 (.lst [.ref a11, .ref a12, .ref a13, .ref a14, .ref a15, .ref a16, .ref a17, .ref a19]) = G20 at P20 ka1 ka2 ka3 ka4 ka5 ka6 ka7 ka8 ka9 ka10 ka11 ka12 ka13 ka14 ka15 ka16 ka17 ka18 ka19 ka20 ⊢
    walk_at "run"
    refine ⟨a10, a20, _, _, rfl, rfl, ka10, ka20, (by show 14 + 8 ≤ sizeLine; decide), fun L hL => ?_⟩
    replace ka1 := same_new (o := .lst ([.non, .bl true, .int 2, .str "a", .str "", .ref a1, .ref a2, .ref a3, .ref a4, .ref a5, .ref a6, .ref a7, .ref a8, .ref a9] ++ [.ref a11, .ref a12, .ref a13, .ref a14, .ref a15, .ref a16, .ref a17, .ref a19])) hL _ _ ka1
    replace ka2 := same_new (o := .lst ([.non, .bl true, .int 2, .str "a", .str "", .ref a1, .ref a2, .ref a3, .ref a4, .ref a5, .ref a6, .ref a7, .ref a8, .ref a9] ++ [.ref a11, .ref a12, .ref a13, .ref a14, .ref a15, .ref a16, .ref a17, .ref a19])) hL _ _ ka2
    replace ka3 := same_new (o := .lst ([.non, .bl true, .int 2, .str "a", .str "", .ref a1, .ref a2, .ref a3, .ref a4, .ref a5, .ref a6, .ref a7, .ref a8, .ref a9] ++ [.ref a11, .ref a12, .ref a13, .ref a14, .ref a15, .ref a16, .ref a17, .ref a19])) hL _ _ ka3
    replace ka4 := same_new (o := .lst ([.non, .bl true, .int 2, .str "a", .str "", .ref a1, .ref a2, .ref a3, .ref a4, .ref a5, .ref a6, .ref a7, .ref a8, .ref a9] ++ [.ref a11, .ref a12, .ref a13, .ref a14, .ref a15, .ref a16, .ref a17, .ref a19])) hL _ _ ka4
    replace ka5 := same_new (o := .lst ([.non, .bl true, .int 2, .str "a", .str "", .ref a1, .ref a2, .ref a3, .ref a4, .ref a5, .ref a6, .ref a7, .ref a8, .ref a9] ++ [.ref a11, .ref a12, .ref a13, .ref a14, .ref a15, .ref a16, .ref a17, .ref a19])) hL _ _ ka5
    replace ka6 := same_new (o := .lst ([.non, .bl true, .int 2, .str "a", .str "", .ref a1, .ref a2, .ref a3, .ref a4, .ref a5, .ref a6, .ref a7, .ref a8, .ref a9] ++ [.ref a11, .ref a12, .ref a13, .ref a14, .ref a15, .ref a16, .ref a17, .ref a19])) hL _ _ ka6
    replace ka7 := same_new (o := .lst ([.non, .bl true, .int 2, .str "a", .str "", .ref a1, .ref a2, .ref a3, .ref a4, .ref a5, .ref a6, .ref a7, .ref a8, .ref a9] ++ [.ref a11, .ref a12, .ref a13, .ref a14, .ref a15, .ref a16, .ref a17, .ref a19])) hL _ _ ka7
    replace ka8 := same_new (o := .lst ([.non, .bl true, .int 2, .str "a", .str "", .ref a1, .ref a2, .ref a3, .ref a4, .ref a5, .ref a6, .ref a7, .ref a8, .ref a9] ++ [.ref a11, .ref a12, .ref a13, .ref a14, .ref a15, .ref a16, .ref a17, .ref a19])) hL _ _ ka8
    replace ka9 := same_new (o := .lst ([.non, .bl true, .int 2, .str "a", .str "", .ref a1, .ref a2, .ref a3, .ref a4, .ref a5, .ref a6, .ref a7, .ref a8, .ref a9] ++ [.ref a11, .ref a12, .ref a13, .ref a14, .ref a15, .ref a16, .ref a17, .ref a19])) hL _ _ ka9
    replace ka10 := same_new (o := .lst ([.non, .bl true, .int 2, .str "a", .str "", .ref a1, .ref a2, .ref a3, .ref a4, .ref a5, .ref a6, .ref a7, .ref a8, .ref a9] ++ [.ref a11, .ref a12, .ref a13, .ref a14, .ref a15, .ref a16, .ref a17, .ref a19])) hL _ _ ka10
    replace ka11 := same_new (o := .lst ([.non, .bl true, .int 2, .str "a", .str "", .ref a1, .ref a2, .ref a3, .ref a4, .ref a5, .ref a6, .ref a7, .ref a8, .ref a9] ++ [.ref a11, .ref a12, .ref a13, .ref a14, .ref a15, .ref a16, .ref a17, .ref a19])) hL _ _ ka11
    replace ka12 := same_new (o := .lst ([.non, .bl true, .int 2, .str "a", .str "", .ref a1, .ref a2, .ref a3, .ref a4, .ref a5, .ref a6, .ref a7, .ref a8, .ref a9] ++ [.ref a11, .ref a12, .ref a13, .ref a14, .ref a15, .ref a16, .ref a17, .ref a19])) hL _ _ ka12
    replace ka13 := same_new (o := .lst ([.non, .bl true, .int 2, .str "a", .str "", .ref a1, .ref a2, .ref a3, .ref a4, .ref a5, .ref a6, .ref a7, .ref a8, .ref a9] ++ [.ref a11, .ref a12, .ref a13, .ref a14, .ref a15, .ref a16, .ref a17, .ref a19])) hL _ _ ka13
    replace ka14 := same_new (o := .lst ([.non, .bl true, .int 2, .str "a", .str "", .ref a1, .ref a2, .ref a3, .ref a4, .ref a5, .ref a6, .ref a7, .ref a8, .ref a9] ++ [.ref a11, .ref a12, .ref a13, .ref a14, .ref a15, .ref a16, .ref a17, .ref a19])) hL _ _ ka14
    replace ka15 := same_new (o := .lst ([.non, .bl true, .int 2, .str "a", .str "", .ref a1, .ref a2, .ref a3, .ref a4, .ref a5, .ref a6, .ref a7, .ref a8, .ref a9] ++ [.ref a11, .ref a12, .ref a13, .ref a14, .ref a15, .ref a16, .ref a17, .ref a19])) hL _ _ ka15
    replace ka16 := same_new (o := .lst ([.non, .bl true, .int 2, .str "a", .str "", .ref a1, .ref a2, .ref a3, .ref a4, .ref a5, .ref a6, .ref a7, .ref a8, .ref a9] ++ [.ref a11, .ref a12, .ref a13, .ref a14, .ref a15, .ref a16, .ref a17, .ref a19])) hL _ _ ka16
    replace ka17 := same_new (o := .lst ([.non, .bl true, .int 2, .str "a", .str "", .ref a1, .ref a2, .ref a3, .ref a4, .ref a5, .ref a6, .ref a7, .ref a8, .ref a9] ++ [.ref a11, .ref a12, .ref a13, .ref a14, .ref a15, .ref a16, .ref a17, .ref a19])) hL _ _ ka17
    replace ka18 := same_new (o := .lst ([.non, .bl true, .int 2, .str "a", .str "", .ref a1, .ref a2, .ref a3, .ref a4, .ref a5, .ref a6, .ref a7, .ref a8, .ref a9] ++ [.ref a11, .ref a12, .ref a13, .ref a14, .ref a15, .ref a16, .ref a17, .ref a19])) hL _ _ ka18
    replace ka19 := same_new (o := .lst ([.non, .bl true, .int 2, .str "a", .str "", .ref a1, .ref a2, .ref a3, .ref a4, .ref a5, .ref a6, .ref a7, .ref a8, .ref a9] ++ [.ref a11, .ref a12, .ref a13, .ref a14, .ref a15, .ref a16, .ref a17, .ref a19])) hL _ _ ka19
    replace ka20 := same_new (o := .lst ([.non, .bl true, .int 2, .str "a", .str "", .ref a1, .ref a2, .ref a3, .ref a4, .ref a5, .ref a6, .ref a7, .ref a8, .ref a9] ++ [.ref a11, .ref a12, .ref a13, .ref a14, .ref a15, .ref a16, .ref a17, .ref a19])) hL _ _ ka20
    have PL := P20.new (o := .lst ([.non, .bl true, .int 2, .str "a", .str "", .ref a1, .ref a2, .ref a3, .ref a4, .ref a5, .ref a6, .ref a7, .ref a8, .ref a9] ++ [.ref a11, .ref a12, .ref a13, .ref a14, .ref a15, .ref a16, .ref a17, .ref a19])) hL
    have kL : upd G20 L (.lst ([.non, .bl true, .int 2, .str "a", .str "", .ref a1, .ref a2, .ref a3, .ref a4, .ref a5, .ref a6, .ref a7, .ref a8, .ref a9] ++ [.ref a11, .ref a12, .ref a13, .ref a14, .ref a15, .ref a16, .ref a17, .ref a19])) L = some (.lst [.non, .bl true, .int 2, .str "a", .str "", .ref a1, .ref a2, .ref a3, .ref a4, .ref a5, .ref a6, .ref a7, .ref a8, .ref a9, .ref a11, .ref a12, .ref a13, .ref a14, .ref a15, .ref a16, .ref a17, .ref a19]) := upd_same
    generalize upd G20 L (.lst ([.non, .bl true, .int 2, .str "a", .str "", .ref a1, .ref a2, .ref a3, .ref a4, .ref a5, .ref a6, .ref a7, .ref a8, .ref a9] ++ [.ref a11, .ref a12, .ref a13, .ref a14, .ref a15, .ref a16, .ref a17, .ref a19])) = HL at PL kL ka1 ka2 ka3 ka4 ka5 ka6 ka7 ka8 ka9 ka10 ka11 ka12 ka13 ka14 ka15 ka16 ka17 ka18 ka19 ka20 ⊢
    walk_at "run"
    refine ⟨p, cc, 22, m, rfl, PL.d, by omega, by decide, by decide, fun j HJ ja jb DJ kJ => ?_⟩
    obtain ⟨v, ev, hv⟩ := at_in (xs := [V.non, V.bl true, V.int 2, V.str "a", V.str "", V.ref a1, V.ref a2, V.ref a3, V.ref a4, V.ref a5, V.ref a6, V.ref a7, V.ref a8, V.ref a9, V.ref a11, V.ref a12, V.ref a13, V.ref a14, V.ref a15, V.ref a16, V.ref a17, V.ref a19]) ja (by show j < ((22 : Nat) : Int); omega)
    have npL : L ≠ p := by
      obtain ⟨_, _, _, _, e, _⟩ := PL.d
      exact ne_of kL e (by intro z; cases z)
    refine n_ixL (SqL.of (kJ L _ npL kL)) ev ?_
    have kd := PL.d.kd kJ
    have fin : ∀ l, Dz K HL v l → (dpB (dpB txtB) l && (dpB txtB l && txtB l)) = true → Q v HJ := fun l h g => go v l HJ (Dz.kd kd h) (gdB_ok g) DJ (fun b u nb h => kJ b u nb (PL.s b u h))
    simp only [List.mem_cons, List.not_mem_nil, or_false] at hv
    rcases hv with rfl | rfl | rfl | rfl | rfl | rfl | rfl | rfl | rfl | rfl | rfl | rfl | rfl | rfl | rfl | rfl | rfl | rfl | rfl | rfl | rfl | rfl
    · exact fin (.none) .non (by decide +kernel)
    · exact fin (.bool true) (.bl _) (by decide +kernel)
    · exact fin (.int 2) (.int _) (by decide +kernel)
    · exact fin (.str "a") (.str _) (by decide +kernel)
    · exact fin (.str "") (.str _) (by decide +kernel)
    · exact fin (.tuple []) (.tup (SqT.of ka1) .nil) (by decide +kernel)
    · exact fin (.list []) (.lst (SqL.of ka2) .nil) (by decide +kernel)
    · exact fin (.dict []) (.dic ka3) (by decide +kernel)
    · exact fin (.tuple [.str "a"]) (.tup (SqT.of ka4) (.cons (.str _) .nil)) (by decide +kernel)
    · exact fin (.tuple [.str "a", .int 2, .int 2]) (.tup (SqT.of ka5) (.cons (.str _) (.cons (.int _) (.cons (.int _) .nil)))) (by decide +kernel)
    · exact fin (.list [.str "a", .int 2]) (.lst (SqL.of ka6) (.cons (.str _) (.cons (.int _) .nil))) (by decide +kernel)
    · exact fin (.tuple [.str "A", .int 2]) (.tup (SqT.of ka7) (.cons (.str _) (.cons (.int _) .nil))) (by decide +kernel)
    · exact fin (.tuple [.str "ab", .int 2]) (.tup (SqT.of ka8) (.cons (.str _) (.cons (.int _) .nil))) (by decide +kernel)
    · exact fin (.tuple [.int 1, .int 2]) (.tup (SqT.of ka9) (.cons (.int _) (.cons (.int _) .nil))) (by decide +kernel)
    · exact fin (.tuple [.str "a", .none]) (.tup (SqT.of ka11) (.cons (.str _) (.cons .non .nil))) (by decide +kernel)
    · exact fin (.tuple [.str "a", .bool true]) (.tup (SqT.of ka12) (.cons (.str _) (.cons (.bl _) .nil))) (by decide +kernel)
    · exact fin (.tuple [.str "a", .int (-1)]) (.tup (SqT.of ka13) (.cons (.str _) (.cons (.int _) .nil))) (by decide +kernel)
    · exact fin (.tuple [.str "a", .int 6]) (.tup (SqT.of ka14) (.cons (.str _) (.cons (.int _) .nil))) (by decide +kernel)
    · exact fin (.tuple [.str "", .int 1]) (.tup (SqT.of ka15) (.cons (.str _) (.cons (.int _) .nil))) (by decide +kernel)
    · exact fin (.tuple [.str "{", .int 1]) (.tup (SqT.of ka16) (.cons (.str _) (.cons (.int _) .nil))) (by decide +kernel)
    · exact fin (.tuple [.str "`", .int 1]) (.tup (SqT.of ka17) (.cons (.str _) (.cons (.int _) .nil))) (by decide +kernel)
    · exact fin (.tuple [.tuple [.str "a", .int 1], .int 1]) (.tup (SqT.of ka19) (.cons (.tup (SqT.of ka18) (.cons (.str _) (.cons (.int _) .nil))) (.cons (.int _) .nil))) (by decide +kernel)
end

/-! ### tuples of things, cut and joined -/
def Tq (K : PySem.W.Frag) (H : Hp) (a : Addr) (n : Nat) : Prop := ∃ (xs : List V) (ds : List PyData), SqT K H a xs ∧ DzA K H xs ds ∧ xs.length ≤ n ∧ ∀ e ∈ ds, dp1 txt e
section
variable {K : PySem.W.Frag} {H H' : Hp} {a b : Addr} {n m : Nat}
theorem Tq.same (s : Same H H') (h : Tq K H a n) : Tq K H' a n := by
  obtain ⟨xs, ds, h1, h2, h3, h4⟩ := h
  exact ⟨xs, ds, sqt_same s h1, DzA.same s h2, h3, h4⟩
theorem Tq.kd (k : Kd H H') (h : Tq K H a n) : Tq K H' a n := by
  obtain ⟨xs, ds, h1, h2, h3, h4⟩ := h
  exact ⟨xs, ds, h1.elim (fun h => .inl (kd_rd k (fun _ e => by cases e) h)) .inr, DzA.kd k h2, h3, h4⟩
theorem Tq.dz (h : Tq K H a n) : ∃ d, Dz K H (.ref a) d ∧ dp1 (dp1 txt) d := by
  obtain ⟨xs, ds, h1, h2, h3, h4⟩ := h
  exact ⟨.tuple ds, .tup h1 h2, h4⟩
theorem Tq.one {v : V} {d : PyData} (h : H a = some (.tup [v])) (hd : Dz K H v d) (ht : dp1 txt d) : Tq K H a 1 :=
  ⟨[v], [d], SqT.of h, .cons hd .nil, Nat.le_refl _, fun e he => by obtain rfl := List.mem_singleton.mp he; exact ht⟩
theorem dza_drop : ∀ {vs : List V} {ds : List PyData} (n : Nat), DzA K H vs ds → DzA K H (vs.drop n) (ds.drop n)
  | _, _, 0, h => h
  | _, _, n + 1, .nil => .nil
  | _, _, n + 1, .cons _ b => dza_drop n b
theorem dza_tk : ∀ {vs : List V} {ds : List PyData} (n : Nat), DzA K H vs ds → DzA K H (vs.take n) (ds.take n)
  | _, _, 0, _ => .nil
  | _, _, n + 1, .nil => .nil
  | _, _, n + 1, .cons a b => .cons a (dza_tk n b)
theorem dza_rev {vs : List V} {ds : List PyData} (h : DzA K H vs ds) : DzA K H vs.reverse ds.reverse := by
  match vs, ds, h with
  | _, _, .nil => exact .nil
  | v :: vs, d :: ds, .cons a b =>
    rw [List.reverse_cons, List.reverse_cons]
    exact DzA.snoc (dza_rev b) a
theorem Tq.sl {lo hi : Option Int} {Q : VK} (h : Tq K H a n) (go : ∀ b H', Same H H' → Tq K H' b n → Q (.ref b) H') : rSlA K (.ref a) lo hi H Q := by
  obtain ⟨xs, ds, h1, h2, h3, h4⟩ := id h
  refine ⟨a, xs, rfl, h1, fun _ => go a H (fun _ _ h => h) h, fun _ p hp => go p _ (same_new hp) ?_⟩
  refine ⟨cutV xs lo hi, (ds.drop (HT.sIx xs.length 0 lo)).take (HT.sIx xs.length xs.length hi - HT.sIx xs.length 0 lo), SqT.of upd_same, DzA.same (same_new hp) (dza_tk _ (dza_drop _ h2)), Nat.le_trans (cutV_length xs lo hi) h3,
    fun e he => h4 e (List.mem_of_mem_drop (List.mem_of_mem_take he))⟩
theorem Tq.rev {Q : VK} (h : Tq K H a n) {σ : L2.St} {i : Nat} (hv : σ[i]? = some (some (.ref a))) (go : ∀ b H', Same H H' → Tq K H' b n → Q (.ref b) H') : tRevT K (tVar i) σ H Q := by
  obtain ⟨xs, ds, h1, h2, h3, h4⟩ := id h
  show tVar i σ H _
  refine n_var hv ⟨a, xs, rfl, h1, fun p hp => go p _ (same_new hp) ⟨xs.reverse, ds.reverse, SqT.of upd_same, DzA.same (same_new hp) (dza_rev h2), by rw [List.length_reverse]; exact h3, fun e he => h4 e (List.mem_reverse.mp he)⟩⟩
theorem Tq.cat {Q : VK} (h : Tq K H a n) (g : Tq K H b m) (hz : n + m ≤ 1000) (go : ∀ c H', Same H H' → Tq K H' c (n + m) → Q (.ref c) H') : rCatA K (.ref a) (.ref b) H Q := by
  obtain ⟨xs, ds, h1, h2, h3, h4⟩ := id h
  obtain ⟨ys, es, g1, g2, g3, g4⟩ := id g
  refine ⟨a, b, xs, ys, rfl, rfl, h1, g1, by rw [sizeLine_eq]; omega, fun e => ?_, fun _ e => ?_, fun _ _ p hp => go p _ (same_new hp) ?_⟩
  · exact go b H (fun _ _ h => h) ⟨ys, es, g1, g2, by omega, g4⟩
  · exact go a H (fun _ _ h => h) ⟨xs, ds, h1, h2, by omega, h4⟩
  · exact ⟨xs ++ ys, ds ++ es, SqT.of upd_same, DzA.same (same_new hp) (DzA.append h2 g2), by rw [List.length_append]; omega, fun e he => (List.mem_append.mp he).elim (h4 e) (g4 e)⟩
theorem ro_tq {rs : List (Nat × Int)} (h : Ro H a rs) (hl : rs.length ≤ 4) : Tq K H a 4 := by
  obtain ⟨ps, h1, h2⟩ := h
  exact ⟨_, _, SqT.of h1, dza_refs h2, by rw [List.length_map, Paired.length h2]; exact hl, ro_txt rs⟩
end
section
variable {P : Program} {w : World} {K : PySem.W.Frag} {mg : Str → Option Value} {base : Heap}
theorem m_par3 {i j l : Nat} {ta : TA} {D : Ends} {σ : L2.St} {H : Hp} (h : ta σ H fun vs H1 => ∃ u v w, vs = [u, v, w] ∧ D.nx (((σ.set i (some u)).set j (some v)).set l (some w)) H1) : tPar3 i j l ta D σ H := h
theorem n_revT {K : PySem.W.Frag} {te : TE} {σ : L2.St} {H : Hp} {Q : VK} (h : te σ H fun x H1 => ∃ a xs, x = .ref a ∧ SqT K H1 a xs ∧ ∀ p, H1 p = none → Q (.ref p) (upd H1 p (.tup xs.reverse))) : tRevT K te σ H Q := h
def spBent (K : PySem.W.Frag) : Sp := fun vs H Q _ => ∃ (p cc a : Addr) (rs : List (Nat × Int)) (m : Nat), vs = [.ref p, .ref a] ∧ Dr H p cc m ∧ m ≤ 999998000 ∧ Ro H a rs ∧ okR rs ∧
  ∀ u l H', Dz K H' u l → dp1 (dp1 txt) l → Dr H' p cc (m + 10) → Kp p H H' → Q u H'
theorem scBe : FnScope ["draw", "rules", "at", "way", "odd", "mark", "size", "other"] ["draw", "rules"] (defScope sBent) := ⟨rfl, rfl, rfl, by decide +kernel, rfl, by decide +kernel, by decide +kernel⟩
structure Gbe (mg : Str → Option Value) (fN fO : Addr) : Prop where
  nxt : mg "_law_next" = some (.ref fN)
  odd : mg "_law_odd" = some (.ref fO)
  len : mg "len" = none
  list : mg "list" = none
  str : mg "str" = none
theorem ok_bent {f fN fO : Addr} {fd fdN fdO : FuncData} (F : Fun K "_law_bent" "_law_bent" sBent f fd) (G : Gbe mg fN fO) (N2 : FnG P w K mg base 2 fN fdN ["draw", "bound"] spNext) (kN : PySem.W.keepIn K (.ref fN) = true) (bN : Binds K fdN ["draw", "bound"] [])
    (NO : FnG P w K mg base 3 fO fdO ["draw"] (spOdd K)) (kO : PySem.W.keepIn K (.ref fO) = true) (bO : Binds K fdO ["draw"] []) :
    FnG P w K mg base 4 f fd ["draw", "rules"] (spBent K) := by
  refine def_ok F scBe (fun vs H Q E h => ?_) (fun cdv A fr s H vs Q E c h => ?_)
  · obtain ⟨_, _, _, _, _, rfl, _⟩ := h
    rfl
  · obtain ⟨p, cc, a, rs, m, rfl, hD, hm, hR, hok, go⟩ := h
    have c2 : Calm 2 _ := c.mono (by decide)
    refine ⟨_, pss_cons (ps_par3 (i := 2) (j := 3) (l := 4) rfl scBe.nd rfl rfl rfl (by decide) (by decide) (by decide) rfl rfl rfl (pa_cons (pe_g N2 c2 rfl G.nxt kN bN quiets (pa_cons (pv 0) (pa_cons (pe_callB call_len_seq (by rfl) G.len PySem.boot_len (pa_cons (pv 1) pa_nil)) pa_nil)))
          (pa_cons (pe_g N2 c2 rfl G.nxt kN bN quiets (pa_cons (pv 0) (pa_cons pe_int pa_nil))) (pa_cons (pe_g NO c rfl G.odd kO bO quiets (pa_cons (pv 0) pa_nil)) pa_nil))) (by rfl))
      (pss_cons (ps_if (pt_cmpR op_eq (pv 3) pe_int (nomark _)) (pss_one (ps_ret (pv 4))) pss_nil)
      (pss_cons (ps_if (pt_cmpR op_eq (pv 3) pe_int (nomark _)) (pss_one (ps_ret (pe_callTy call_list_of (by rfl) G.list (by decide +kernel) (pa_cons (pv 1) pa_nil)))) pss_nil)
      (pss_cons (ps_if (pt_cmpR op_eq (pv 3) pe_int (nomark _)) (pss_one (ps_ret (pe_slice sl_tupA (pe_op op_catA (pv 1) (pe_tup (pa_cons (pe_tup (pa_cons pe_str (pa_cons pe_int pa_nil))) (pa_cons (pe_tup (pa_cons pe_str (pa_cons pe_int pa_nil))) (pa_cons (pe_tup (pa_cons pe_str (pa_cons pe_int pa_nil))) (pa_cons (pe_tup (pa_cons pe_str (pa_cons pe_int pa_nil))) pa_nil)))))) po_none
          (po_some (pe_op op_add pe_int (pe_g N2 c2 rfl G.nxt kN bN quiets (pa_cons (pv 0) (pa_cons pe_int pa_nil)))))))) pss_nil)
      (pss_cons (ps_if (pt_cmpR op_eq (pv 3) pe_int (nomark _)) (pss_one (ps_ret (pe_op op_catA (pe_revT (pv 1)) (pe_slice sl_tupA (pv 1) po_none (po_some (pe_g N2 c2 rfl G.nxt kN bN quiets (pa_cons (pv 0) (pa_cons pe_int pa_nil)))))))) pss_nil)
      (pss_cons (ps_if (pt_cmpR op_eq (pv 3) pe_int (nomark _)) (pss_one (ps_ret (pe_op op_catA (pe_op op_catA (pe_slice sl_tupA (pv 1) po_none (po_some (pv 2))) (pe_tup (pa_cons (pv 4) pa_nil))) (pe_slice sl_tupA (pv 1) (po_some (pv 2)) po_none)))) pss_nil)
      (pss_cons (ps_asg (pe_ix ix_tup (pv 1) (pv 2) (fun _ _ => rfl)) (pg_tup rfl (pgs_cons (pg_name (i := 5) scBe.nd rfl (Or.inl rfl)) (pgs_cons (pg_name (i := 6) scBe.nd rfl (Or.inl rfl)) pgs_nil))))
      (pss_cons (ps_if (pt_cmpR op_eq (pv 3) pe_int (nomark _))
        (pss_cons (ps_set (i := 7) scBe.nd rfl (Or.inl rfl) (pe_lst (pa_cons (pe_tup (pa_cons (pv 5) (pa_cons (pe_op op_add (pv 6) pe_int) pa_nil))) (pa_cons (pe_tup (pa_cons (pv 5) (pa_cons (pe_op op_sub pe_int pe_int) pa_nil))) (pa_cons (pe_tup (pa_cons (pv 5) (pa_cons (pe_cmpR op_eq (pv 6) pe_int (nomark _)) pa_nil)))
            (pa_cons (pe_tup (pa_cons (pe_op op_add_str (pv 5) (pv 5)) (pa_cons (pv 6) pa_nil))) (pa_cons (pe_tup (pa_cons (pv 5) (pa_cons (pe_callTy call_str_int (by rfl) G.str (by decide +kernel) (pa_cons (pv 6) pa_nil)) pa_nil))) pa_nil)))))))
        (pss_one (ps_ret (pe_op op_catA (pe_op op_catA (pe_slice sl_tupA (pv 1) po_none (po_some (pv 2))) (pe_tup (pa_cons (pe_ix ix_list (pv 7) (pe_g N2 c2 rfl G.nxt kN bN quiets (pa_cons (pv 0) (pa_cons pe_int pa_nil))) (fun _ _ => rfl)) pa_nil))) (pe_slice sl_tupA (pv 1) (po_some (pe_op op_add (pv 2) pe_int)) po_none))))) pss_nil)
      (pss_one (ps_ret (pe_op op_catA (pe_op op_catA (pe_slice sl_tupA (pv 1) po_none (po_some (pv 2))) (pe_tup (pa_cons (pe_tup (pa_cons (pv 5) (pa_cons (pv 6) pa_nil))) pa_nil))) (pe_slice sl_tupA (pv 1) (po_some (pv 2)) po_none))))))))))), ?_⟩
    have hn1 : 0 < rs.length := hok.1
    have hn4 := hok.2.1
    obtain ⟨ps, hps, hpr⟩ := id hR
    have hpl : (ps.map V.ref).length = rs.length := by rw [List.length_map, Paired.length hpr]
    refine m_par3 ?_
    walk_at "run"
    refine ⟨_, _, rfl, Or.inr (SqT.of hps), ?_⟩
    rw [hpl]
    walk_at "run"
    refine ⟨p, cc, _, m, rfl, hD, by omega, by omega, by omega, fun at_ H1 ata atb D1 k1 => ?_⟩
    walk_at "run"
    refine ⟨p, cc, 7, _, rfl, D1, by omega, by decide, by decide, fun way H2 wa wb D2 k2 => ?_⟩
    walk_at "run"
    refine ⟨p, cc, _, rfl, D2, by omega, fun ov ol H3 ho hg D3 k3 => ?_⟩
    have k03 := (k1.trans k2).trans k3
    have R3 := hR.keep (hD.tups k03)
    have t3 := ro_tq (K := K) R3 hn4
    refine n_nil ⟨_, _, _, rfl, ?_⟩
    have fin : ∀ (b : Addr) (n : Nat) (H4 : Hp), Dr H4 p cc (m + 10) → Kp p H H4 → Tq K H4 b n → Q (.ref b) H4 := fun b n H4 d k t => by
      obtain ⟨l, h1, h2⟩ := t.dz
      exact go _ l H4 h1 h2 d k
    have kS : ∀ {H4 : Hp}, Same H3 H4 → Kp p H H4 := fun s b u nb h => s b u (k03 b u nb h)
    have dS : ∀ {H4 : Hp}, Same H3 H4 → Dr H4 p cc (m + 3) := fun s => D3.at (fun o h => s _ _ h) (fun o h => s _ _ h)
    walk_at "run"
    refine n_ite (fun h1 => ?_) (fun h1 => ?_)
    · walk_at "run"
      exact go ov ol H3 ho hg.1 (D3.mono (by omega)) k03
    walk_at "run"
    refine n_ite (fun h2 => ?_) (fun h2 => ?_)
    · walk_at "run"
      obtain ⟨xs, ds, x1, x2, x3, x4⟩ := t3
      refine ⟨a, xs, rfl, Or.inr x1, fun l hl => ?_⟩
      have s4 := same_new (o := .lst xs) hl
      exact go (.ref l) (.list ds) _ (.lst (SqL.of upd_same) (DzA.same s4 x2)) trivial ((dS s4).mono (by omega)) (kS s4)
    walk_at "run"
    refine n_ite (fun h3 => ?_) (fun h3 => ?_)
    · walk_at "run"
      refine ⟨(by show 2 ≤ sizeLine; decide), fun b1 hb1 => ?_⟩
      walk_at "run"
      refine ⟨(by show 2 ≤ sizeLine; decide), fun b2 hb2 => ?_⟩
      walk_at "run"
      refine ⟨(by show 2 ≤ sizeLine; decide), fun b3 hb3 => ?_⟩
      walk_at "run"
      refine ⟨(by show 2 ≤ sizeLine; decide), fun b4 hb4 => ?_⟩
      walk_at "run"
      refine ⟨(by show 4 ≤ sizeLine; decide), fun b5 hb5 => ?_⟩
      have s1 := same_new (o := .tup [.str "x", .int 1]) hb1
      have s2 := same_new (o := .tup [.str "y", .int 1]) hb2
      have s3 := same_new (o := .tup [.str "z", .int 1]) hb3
      have s4 := same_new (o := .tup [.str "z", .int 1]) hb4
      have s5 := same_new (o := .tup [V.ref b1, .ref b2, .ref b3, .ref b4]) hb5
      have s45 := same_tr s4 s5
      have s35 := same_tr s3 s45
      have s25 := same_tr s2 s35
      have S := same_tr s1 s25
      have tx : ∀ (z : Str), z.length ≤ 100000 → dp1 txt (.tuple [.str z, .int 1]) := fun z hz f hf => by
        rcases List.mem_cons.mp hf with rfl | hf
        · exact hz
        · obtain rfl := List.mem_singleton.mp hf
          trivial
      have tb : Tq K _ b5 4 := ⟨_, [.tuple [.str "x", .int 1], .tuple [.str "y", .int 1], .tuple [.str "z", .int 1], .tuple [.str "z", .int 1]], SqT.of upd_same,
        .cons (.tup (SqT.of (s25 _ _ upd_same)) (.cons (.str _) (.cons (.int _) .nil))) (.cons (.tup (SqT.of (s35 _ _ upd_same)) (.cons (.str _) (.cons (.int _) .nil))) (.cons (.tup (SqT.of (s45 _ _ upd_same)) (.cons (.str _) (.cons (.int _) .nil))) (.cons (.tup (SqT.of (s5 _ _ upd_same)) (.cons (.str _) (.cons (.int _) .nil))) .nil))),
        Nat.le_refl _, fun e he => by
          simp only [List.mem_cons, List.not_mem_nil, or_false] at he
          rcases he with rfl | rfl | rfl | rfl <;> exact tx _ (by decide)⟩
      refine Tq.cat (t3.same S) tb (by decide) fun cq H4 s6 tc => ?_
      have S4 := same_tr S s6
      walk_at "run"
      refine ⟨p, cc, 3, _, rfl, dS S4, by omega, by decide, by decide, fun n3 H5 n3a n3b D5 k5 => ?_⟩
      walk_at "run"
      refine Tq.sl (tc.kd ((dS S4).kd k5)) fun b H6 s7 tb => fin b _ H6 (D5.at (fun o h => s7 _ _ h) (fun o h => s7 _ _ h) |>.mono (by omega)) (fun x u nb h => s7 _ _ ((kS S4).trans k5 x u nb h)) tb
    walk_at "run"
    refine n_ite (fun h4 => ?_) (fun h4 => ?_)
    · walk_at "run"
      refine Tq.rev t3 rfl fun b1 H4 s4 tb => ?_
      walk_at "run"
      refine ⟨p, cc, 2, _, rfl, dS s4, by omega, by decide, by decide, fun n3 H5 n3a n3b D5 k5 => ?_⟩
      have kd := (dS s4).kd k5
      walk_at "run"
      refine Tq.sl (t3.same s4 |>.kd kd) fun b2 H6 s6 t6 => ?_
      refine Tq.cat ((tb.kd kd).same s6) t6 (by decide) fun b3 H7 s7 t7 => fin b3 _ H7 (D5.at (fun o h => s7 _ _ (s6 _ _ h)) (fun o h => s7 _ _ (s6 _ _ h)) |>.mono (by omega)) (fun x u nb h => s7 _ _ (s6 _ _ ((kS s4).trans k5 x u nb h))) t7
    walk_at "run"
    refine n_ite (fun h5 => ?_) (fun h5 => ?_)
    · walk_at "run"
      refine Tq.sl t3 fun b1 H4 s4 t4 => ?_
      walk_at "run"
      refine ⟨(by show 1 ≤ sizeLine; decide), fun b2 hb2 => ?_⟩
      have s5 := same_new (o := .tup [ov]) hb2
      have S5 := same_tr s4 s5
      refine Tq.cat (t4.same s5) (Tq.one upd_same (ho.same S5) hg.2.1) (by decide) fun b3 H6 s6 t6 => ?_
      walk_at "run"
      have S6 := same_tr S5 s6
      refine Tq.sl (t3.same S6) fun b4 H7 s7 t7 => ?_
      refine Tq.cat (t6.same s7) t7 (by decide) fun b5 H8 s8 t8 => ?_
      have S8 := same_tr (same_tr S6 s7) s8
      exact fin b5 _ H8 ((dS S8).mono (by omega)) (kS S8) t8
    walk_at "run"
    have jn : at_.toNat < rs.length := by omega
    obtain ⟨ps3, hps3, hpr3⟩ := id R3
    obtain ⟨q, eq, hq⟩ := Ro.at (a := a) hpr3 jn
    have ej : at_ = ((at_.toNat : Nat) : Int) := by omega
    refine n_ixT (SqT.of hps3) (show atI (ps3.map V.ref) at_ = some (V.ref q) from ?_) ?_
    · rw [ej]
      exact atI_nat (by rw [List.getElem?_map, eq]; rfl)
    refine n_gtup (SqT.of hq) rfl ?_
    walk_at "run"
    have hb := hok.2.2.2 _ (List.getElem_mem jn)
    have tl : ∀ f ∈ [PyData.str ⟨#[rs[at_.toNat].1]⟩, .int rs[at_.toNat].2], txt f := fun f hf => by
      rcases List.mem_cons.mp hf with rfl | hf
      · show 1 ≤ 100000
        decide
      · obtain rfl := List.mem_singleton.mp hf
        trivial
    refine n_ite (fun h6 => ?_) (fun h6 => ?_)
    · walk_at "run"
      refine ⟨(by show 2 ≤ sizeLine; decide), fun b1 hb1 => ?_⟩
      have s1 := same_new (o := .tup [.str ⟨#[rs[at_.toNat].1]⟩, .int (rs[at_.toNat].2 + 6)]) hb1
      walk_at "run"
      refine ⟨(by show 2 ≤ sizeLine; decide), fun b2 hb2 => ?_⟩
      have s2 := same_new (o := .tup [.str ⟨#[rs[at_.toNat].1]⟩, .int (0 - 1)]) hb2
      walk_at "run"
      refine ⟨(by show 2 ≤ sizeLine; decide), fun b3 hb3 => ?_⟩
      have s3 := same_new (o := .tup [.str ⟨#[rs[at_.toNat].1]⟩, .bl (decide (V.int rs[at_.toNat].2 = V.int 1))]) hb3
      walk_at "run"
      refine ⟨_, _, rfl, rfl, (by show 1 + 1 ≤ sizeLine; decide), ?_⟩
      walk_at "run"
      refine ⟨(by show 2 ≤ sizeLine; decide), fun b4 hb4 => ?_⟩
      have s4 := same_new (o := .tup [.str ((⟨#[rs[at_.toNat].1]⟩ : Str) ++ ⟨#[rs[at_.toNat].1]⟩), .int rs[at_.toNat].2]) hb4
      walk_at "run"
      have lg : ∀ i : Int, 0 ≤ i → i ≤ 5 → i.natAbs.log2 < 1920 := fun i h0 h5 => by
        obtain ⟨n, rfl⟩ := Int.eq_ofNat_of_zero_le h0
        have : n < 6 := by omega
        match n, this with
        | 0, _ => decide
        | 1, _ => decide
        | 2, _ => decide
        | 3, _ => decide
        | 4, _ => decide
        | 5, _ => decide
        | n + 6, h => exact absurd h (by omega)
      refine ⟨_, rfl, lg _ hb.2.2.1 hb.2.2.2, ?_⟩
      walk_at "run"
      refine ⟨(by show 2 ≤ sizeLine; decide), fun b5 hb5 => ?_⟩
      have s5 := same_new (o := .tup [.str ⟨#[rs[at_.toNat].1]⟩, .str (toString rs[at_.toNat].2)]) hb5
      walk_at "run"
      refine ⟨(by show 5 ≤ sizeLine; decide), fun L hL => ?_⟩
      have s6 := same_new (o := .lst [V.ref b1, .ref b2, .ref b3, .ref b4, .ref b5]) hL
      have s56 := same_tr s5 s6
      have s46 := same_tr s4 s56
      have s36 := same_tr s3 s46
      have s26 := same_tr s2 s36
      have S := same_tr s1 s26
      have g1 := s26 _ _ (upd_same (H := H3) (a := b1) (o := .tup [.str ⟨#[rs[at_.toNat].1]⟩, .int (rs[at_.toNat].2 + 6)]))
      have g2 := s36 _ _ (upd_same (a := b2) (o := .tup [.str ⟨#[rs[at_.toNat].1]⟩, .int (0 - 1)]))
      have g3 := s46 _ _ (upd_same (a := b3) (o := .tup [.str ⟨#[rs[at_.toNat].1]⟩, .bl (decide (V.int rs[at_.toNat].2 = V.int 1))]))
      have g4 := s56 _ _ (upd_same (a := b4) (o := .tup [.str ((⟨#[rs[at_.toNat].1]⟩ : Str) ++ ⟨#[rs[at_.toNat].1]⟩), .int rs[at_.toNat].2]))
      have g5 := s6 _ _ (upd_same (a := b5) (o := .tup [.str ⟨#[rs[at_.toNat].1]⟩, .str (toString rs[at_.toNat].2)]))
      have gL : upd (upd (upd (upd (upd (upd H3 b1 (.tup [.str ⟨#[rs[at_.toNat].1]⟩, .int (rs[at_.toNat].2 + 6)])) b2 (.tup [.str ⟨#[rs[at_.toNat].1]⟩, .int (0 - 1)])) b3 (.tup [.str ⟨#[rs[at_.toNat].1]⟩, .bl (decide (V.int rs[at_.toNat].2 = V.int 1))]))
          b4 (.tup [.str ((⟨#[rs[at_.toNat].1]⟩ : Str) ++ ⟨#[rs[at_.toNat].1]⟩), .int rs[at_.toNat].2])) b5 (.tup [.str ⟨#[rs[at_.toNat].1]⟩, .str (toString rs[at_.toNat].2)])) L (.lst [V.ref b1, .ref b2, .ref b3, .ref b4, .ref b5]) L = some (.lst [V.ref b1, .ref b2, .ref b3, .ref b4, .ref b5]) := upd_same
      generalize upd (upd (upd (upd (upd (upd H3 b1 _) b2 _) b3 _) b4 _) b5 _) L _ = HL at S g1 g2 g3 g4 g5 gL ⊢
      clear s1 s2 s3 s4 s5 s6 s56 s46 s36 s26
      walk_at "run"
      refine Tq.sl (t3.same S) fun c1 H4 s4 t4 => ?_
      have S4 := same_tr S s4
      walk_at "run"
      refine ⟨p, cc, 5, _, rfl, dS S4, by omega, by decide, by decide, fun j H5 ja jb D5 k5 => ?_⟩
      have kd := (dS S4).kd k5
      have k5' := (kS S4).trans k5
      obtain ⟨v, ev, hv⟩ := at_in (xs := [V.ref b1, .ref b2, .ref b3, .ref b4, .ref b5]) ja (by show j < ((5 : Nat) : Int); omega)
      have npL : L ≠ p := by
        obtain ⟨_, _, _, _, e, _⟩ := dS S4
        exact ne_of (s4 _ _ gL) e (by intro z; cases z)
      refine n_ixL (SqL.of (k5 L _ npL (s4 _ _ gL))) ev ?_
      walk_at "run"
      refine ⟨(by show 1 ≤ sizeLine; decide), fun c2 hc2 => ?_⟩
      have s6 := same_new (o := .tup [v]) hc2
      simp only [List.mem_cons, List.not_mem_nil, or_false] at hv
      have it : ∃ d, Dz K HL v d ∧ dp1 txt d := by
        have tz : ∀ (z : Str) (d : PyData), z.length ≤ 100000 → txt d → dp1 txt (.tuple [.str z, d]) := fun z d hz hd f hf => by
          rcases List.mem_cons.mp hf with rfl | hf
          · exact hz
          · obtain rfl := List.mem_singleton.mp hf
            exact hd
        have l1 : (⟨#[rs[at_.toNat].1]⟩ : Str).length ≤ 100000 := by show 1 ≤ 100000; decide
        rcases hv with rfl | rfl | rfl | rfl | rfl
        · exact ⟨_, .tup (SqT.of g1) (.cons (.str _) (.cons (.int _) .nil)), tz _ _ l1 trivial⟩
        · exact ⟨_, .tup (SqT.of g2) (.cons (.str _) (.cons (.int _) .nil)), tz _ _ l1 trivial⟩
        · exact ⟨_, .tup (SqT.of g3) (.cons (.str _) (.cons (.bl _) .nil)), tz _ _ l1 trivial⟩
        · exact ⟨_, .tup (SqT.of g4) (.cons (.str _) (.cons (.int _) .nil)), tz _ _ (by rw [strLen_append]; show 1 + 1 ≤ 100000; decide) trivial⟩
        · refine ⟨_, .tup (SqT.of g5) (.cons (.str _) (.cons (.str _) .nil)), tz _ _ l1 ?_⟩
          have sm : ∀ i : Int, 0 ≤ i → i ≤ 5 → ((toString i : String) : Str).length ≤ 100000 := fun i h0 h5 => by
            obtain ⟨n, rfl⟩ := Int.eq_ofNat_of_zero_le h0
            have : n < 6 := by omega
            match n, this with
            | 0, _ => decide +kernel
            | 1, _ => decide +kernel
            | 2, _ => decide +kernel
            | 3, _ => decide +kernel
            | 4, _ => decide +kernel
            | 5, _ => decide +kernel
            | n + 6, h => exact absurd h (by omega)
          exact sm _ hb.2.2.1 hb.2.2.2
      obtain ⟨dv, hdv, tdv⟩ := it
      have hv6 := (Dz.kd kd (hdv.same s4)).same s6
      refine Tq.cat ((t4.kd kd).same s6) (Tq.one upd_same hv6 tdv) (by decide) fun c3 H7 s7 t7 => ?_
      walk_at "run"
      refine Tq.sl (((t3.same S4).kd kd).same s6 |>.same s7) fun c4 H8 s8 t8 => ?_
      refine Tq.cat (t7.same s8) t8 (by decide) fun c5 H9 s9 t9 => ?_
      have S9 := same_tr (same_tr (same_tr s6 s7) s8) s9
      exact fin c5 _ H9 ((D5.at (fun o h => S9 _ _ h) (fun o h => S9 _ _ h)).mono (by omega)) (fun x u nb h => S9 _ _ (k5' x u nb h)) t9
    · walk_at "run"
      refine Tq.sl t3 fun b1 H4 s4 t4 => ?_
      walk_at "run"
      refine ⟨(by show 2 ≤ sizeLine; decide), fun b2 hb2 => ?_⟩
      have s5 := same_new (o := .tup [.str ⟨#[rs[at_.toNat].1]⟩, .int rs[at_.toNat].2]) hb2
      walk_at "run"
      refine ⟨(by show 1 ≤ sizeLine; decide), fun b3 hb3 => ?_⟩
      have s6 := same_new (o := .tup [V.ref b2]) hb3
      have S6 := same_tr (same_tr s4 s5) s6
      refine Tq.cat (t4.same (same_tr s5 s6)) (Tq.one (d := .tuple [.str ⟨#[rs[at_.toNat].1]⟩, .int rs[at_.toNat].2]) upd_same (.tup (SqT.of (s6 _ _ upd_same)) (.cons (.str _) (.cons (.int _) .nil))) tl) (by decide) fun b4 H7 s7 t7 => ?_
      walk_at "run"
      have S7 := same_tr S6 s7
      refine Tq.sl (t3.same S7) fun b5 H8 s8 t8 => ?_
      refine Tq.cat (t7.same s8) t8 (by decide) fun b6 H9 s9 t9 => ?_
      have S9 := same_tr (same_tr S7 s8) s9
      exact fin b6 _ H9 ((dS S9).mono (by omega)) (kS S9) t9
end

/-! ### told right -/
theorem pigeon : ∀ (l bs : List Nat), l.Nodup → (∀ x ∈ l, x ∈ bs) → l.length ≤ bs.length
  | [], _, _, _ => Nat.zero_le _
  | x :: l, bs, nd, h => by
    obtain ⟨n1, n2⟩ := List.nodup_cons.mp nd
    have hx := h x List.mem_cons_self
    have ih := pigeon l (bs.erase x) n2 fun y hy => (List.mem_erase_of_ne (fun e => n1 (by rw [← e]; exact hy))).mpr (h y (List.mem_cons_of_mem _ hy))
    rw [List.length_erase_of_mem hx] at ih
    have := List.length_pos_of_mem hx
    rw [List.length_cons]
    omega
theorem others_pos {bs : List Nat} (h : bs.length ≤ 4) : 0 < (abc.cps.toList.filter fun c => !decide (c ∈ bs)).length := by
  rcases Nat.eq_zero_or_pos (abc.cps.toList.filter fun c => !decide (c ∈ bs)).length with e | e
  · have e2 := List.filter_eq_nil_iff.mp (List.length_eq_zero_iff.mp e)
    have := pigeon [97, 98, 99, 100, 101] bs (by decide) fun x hx => by
      have hm : x ∈ abc.cps.toList := (by decide +kernel : ∀ y ∈ [97, 98, 99, 100, 101], y ∈ abc.cps.toList) x hx
      have := e2 x hm
      simpa using this
    simp at this
    omega
  · exact e
theorem size_at : ∀ {rs : List (Nat × Int)} {i : Nat} (hi : i < rs.length), rs.Pairwise (fun a b => a.1 < b.1) → sizeIn (rs.map enD) (.str ⟨#[rs[i].1]⟩) = some (.int rs[i].2)
  | r :: rs, 0, _, _ => by
    show (if PyData.eqv (.str ⟨#[r.1]⟩) (.str ⟨#[r.1]⟩) = true then some (V.int r.2) else _) = _
    rw [if_pos (by simp [PyData.eqv])]
    rfl
  | r :: rs, i + 1, hi, hp => by
    obtain ⟨p1, p2⟩ := List.pairwise_cons.mp hp
    have hi' : i < rs.length := by simpa using hi
    have hlt := p1 rs[i] (List.getElem_mem hi')
    show (if PyData.eqv (.str ⟨#[r.1]⟩) (.str ⟨#[rs[i].1]⟩) = true then some (V.int r.2) else sizeIn (rs.map enD) (.str ⟨#[rs[i].1]⟩)) = _
    rw [if_neg, size_at hi' p2]
    · rfl
    · simp [PyData.eqv]
      omega
theorem size_none {q : PyData} : ∀ {rs : List (Nat × Int)}, (∀ r ∈ rs, PyData.eqv (.str ⟨#[r.1]⟩) q = false) → sizeIn (rs.map enD) q = none
  | [], _ => rfl
  | r :: rs, h => by
    show (if PyData.eqv (.str ⟨#[r.1]⟩) q = true then some (V.int r.2) else sizeIn (rs.map enD) q) = none
    rw [h r List.mem_cons_self, if_neg (by decide)]
    exact size_none fun x hx => h x (List.mem_cons_of_mem _ hx)
theorem ro_dup1 {rs : List (Nat × Int)} {r0 : Nat × Int} (h : okR rs) (hr : rs[0]? = some r0) : faultD (roD (rs ++ [r0])) = some (if rs.length = 4 then .non else .int (rs.length : Nat)) := by
  obtain ⟨n1, n4, hp, hb⟩ := h
  have e : faultD (roD (rs ++ [r0])) = (if (decide (1 ≤ (((rs ++ [r0]).map enD).length : Int)) && decide ((((rs ++ [r0]).map enD).length : Int) ≤ 4)) = true then (faultAt 0 [] ((rs ++ [r0]).map enD)).map (fun i => V.int (i : Nat)) else some .non) := rfl
  rw [e, List.length_map, List.length_append, List.length_singleton]
  by_cases h4 : rs.length = 4
  · rw [if_pos h4, if_neg]
    rw [decide_eq_false (by omega : ¬ ((rs.length + 1 : Nat) : Int) ≤ 4), Bool.and_false]
    decide
  · rw [if_neg h4, decide_eq_true (by omega : (1 : Int) ≤ ((rs.length + 1 : Nat) : Int)), decide_eq_true (by omega : ((rs.length + 1 : Nat) : Int) ≤ 4), if_pos (show (true && true) = true from rfl), List.map_append,
      fault_snoc (fault_ok hb hp fun r _ => List.nil_lt_cons _ _)]
    match rs, hr, n1, hp with
    | r :: rest, hr, _, hp =>
      have hr' : r = r0 := by simpa using hr
      subst hr'
      obtain ⟨rl, hrl⟩ : ∃ rl, (r :: rest).getLast? = some rl := ⟨(r :: rest).getLast (by simp), List.getLast?_eq_getLast (by simp)⟩
      have e2 : ((((r :: rest).map enD).getLast?.map headS).getD []) = [rl.1] := by
        rw [List.getLast?_map, hrl]
        rfl
      have hle : r.1 ≤ rl.1 := by
        have hm : rl ∈ r :: rest := List.mem_of_getLast? hrl
        rcases List.mem_cons.mp hm with rfl | hm
        · exact Nat.le_refl _
        · exact Nat.le_of_lt ((List.pairwise_cons.mp hp).1 rl hm)
      rw [e2, List.length_map, Nat.zero_add]
      have g : goodE [rl.1] (enD r) = false := by
        unfold goodE
        rw [show headS (enD r) = [r.1] from rfl, decide_eq_false (fun q => by have := lt_one.mp q; omega : ¬ [rl.1] < [r.1]), Bool.and_false]
      show Option.map _ (if goodE [rl.1] (enD r) = true then _ else some (r :: rest).length) = _
      rw [g, if_neg (by decide)]
      rfl
theorem badges_join (rs : List (Nat × Int)) : badgesD (roD rs) = Txt.join "" (rs.map fun r => (⟨#[r.1]⟩ : Str)) := by
  show Txt.join "" ((rs.map enD).map headT) = _
  rw [List.map_map]
  rfl
theorem ro_lc {K : PySem.W.Frag} {te : TE} {σ : L2.St} {H1 : Hp} {D a : Addr} {rs : List (Nat × Int)} {f : Nat × Int → V} {Qd : Hp → Prop} (hR : Ro H1 a rs) (hl : rs.length ≤ 4) (hD : H1 D = none)
    (hw : ∀ v w : V, wipe (((wipe σ [5, 6]).set 5 (some v)).set 6 (some w)) [5, 6] = wipe σ [5, 6])
    (ht : ∀ (i : Nat) (hi : i < rs.length) (H : Hp) (Q : VK), Same H1 H → (∀ H', Same H H' → Q (f rs[i]) H') → te (((wipe σ [5, 6]).set 5 (some (.str ⟨#[rs[i].1]⟩))).set 6 (some (.int rs[i].2))) H Q)
    (hd : ∀ H', Same H1 H' → H' D = some (.lst (rs.map f)) → Qd H') :
    ∃ W : Nat → Nat → Hp → Prop, (∃ m, W 0 m (upd H1 D (.lst []))) ∧ ∀ i m H, W i m H →
      ((Itt K a).stop i H ∧ Qd H) ∨ ((Itt K a).go i H ∧ ∃ Nx : Hp → Prop, (∀ H', Nx H' → ∃ m', m' < m ∧ W (i + 1) m' H') ∧ ∀ x H', (Itt K a).yld i H x H' → gTup K 2 (gCons (gName 5) (gCons (gName 6) gNil)) x (wipe σ [5, 6]) H' fun σ2 H2 => wipe σ2 [5, 6] = wipe σ [5, 6] ∧ tYes σ2 H2 fun b H3 =>
        if b = true then te σ2 H3 fun y H4 => ∃ acc, H4 D = some (.lst acc) ∧ acc.length < sizeLine ∧ Nx (upd H4 D (.lst (acc ++ [y]))) else Nx H3) := by
  obtain ⟨ps, hps, hpr⟩ := hR
  have hplen : ps.length = rs.length := Paired.length hpr
  refine lc_tup (xs := ps.map V.ref) (fun i H' => Same H1 H' ∧ H' D = some (.lst ((rs.take i).map f))) ⟨same_new hD, upd_same⟩ (fun i H' _ ⟨h, _⟩ => sqt_same h (SqT.of hps)) ?_ ?_
  · rintro i x H5 hx ⟨h5, hD5⟩
    rw [List.getElem?_map] at hx
    obtain ⟨q, hq, rfl⟩ := Option.map_eq_some_iff.mp hx
    have hil : i < rs.length := by
      rw [← hplen]
      exact (List.getElem?_eq_some_iff.mp hq).1
    obtain ⟨q', hq', hqr⟩ := Ro.at (a := a) hpr hil
    rw [hq] at hq'
    cases hq'
    refine n_gtup (SqT.of (h5 _ _ hqr)) rfl (n_gcons (m_gn (n_gcons (m_gn (n_gnil ⟨hw _ _, n_yes (iteT (ht i hil _ _ h5 fun H6 s6 => ?_))⟩)))))
    refine ⟨_, s6 _ _ hD5, by rw [List.length_map, List.length_take, sizeLine_eq]; omega, fun b u h => by rw [upd_ne (ne_of_none h hD)]; exact s6 _ _ (h5 b u h), ?_⟩
    rw [upd_same, take_snoc (List.getElem?_eq_getElem hil), List.map_append]
    rfl
  · rintro H5 ⟨h5, hD5⟩
    rw [List.length_map, hplen, List.take_length] at hD5
    exact hd H5 h5 hD5
section
variable {P : Program} {w : World} {K : PySem.W.Frag} {mg : Str → Option Value} {base : Heap}
def spTold (K : PySem.W.Frag) : Sp := fun vs H Q _ => ∃ (p cc a : Addr) (rs : List (Nat × Int)) (m : Nat), vs = [.ref p, .ref a] ∧ Dr H p cc m ∧ m ≤ 999998000 ∧ Ro H a rs ∧ okR rs ∧ ∀ H', Dr H' p cc (m + 10) → Kp p H H' → Q (.bl true) H'
def toldN : List Str := ["draw", "rules", "letters", "others", "odd", "mark", "size", "one"]
theorem scTo : FnScope ["draw", "rules", "letters", "others", "odd", "mark", "size", "one"] ["draw", "rules"] (defScope sTold) := ⟨rfl, rfl, rfl, by decide +kernel, rfl, by decide +kernel, by decide +kernel⟩
structure Gto (mg : Str → Option Value) (fN fB fS fW : Addr) : Prop where
  nxt : mg "_law_next" = some (.ref fN)
  ba : mg "badges_of" = some (.ref fB)
  so : mg "size_of" = some (.ref fS)
  sw : mg "_law_size_word" = some (.ref fW)
  len : mg "len" = none
  int : mg "int" = none
  repr : mg "repr" = none
theorem ok_told {f fN fB fS fW C B : Addr} {fd fdN fdB fdS fdW : FuncData} (F : Fun K "_law_told_right" "_law_told_right" sTold f fd) (G : Gto mg fN fB fS fW) (N2 : FnG P w K mg base 2 fN fdN ["draw", "bound"] spNext) (kN : PySem.W.keepIn K (.ref fN) = true) (bN : Binds K fdN ["draw", "bound"] [])
    (NB : FnG P w K mg base 4 fB fdB ["roster"] (spBadges K C)) (kB : PySem.W.keepIn K (.ref fB) = true) (bB : Binds K fdB ["roster"] []) (kbB : KBinds K fdB ["roster"] ["roster"] byName byName)
    (NS : FnG P w K mg base 4 fS fdS ["roster", "badge"] (spSizeOf K C B)) (kS : PySem.W.keepIn K (.ref fS) = true) (bS : Binds K fdS ["roster", "badge"] [])
    (NW : FnG P w K mg base 5 fW fdW ["rules", "mark"] (spSw K)) (kW : PySem.W.keepIn K (.ref fW) = true) (bW : Binds K fdW ["rules", "mark"] []) :
    FnG P w K mg base 6 f fd ["draw", "rules"] (spTold K) := by
  refine def_ok F scTo (fun vs H Q E h => ?_) (fun cdv A fr s H vs Q E c h => ?_)
  · obtain ⟨_, _, _, _, _, rfl, _⟩ := h
    rfl
  · obtain ⟨p, cc, a, rs, m, rfl, hD, hm, hR, hok, go⟩ := h
    have c2 : Calm 2 _ := c.mono (by decide)
    have c4 : Calm 4 _ := c.mono (by decide)
    have hun := c.room.units
    refine ⟨_, pss_cons (ps_if (PW.pt (pw_or (pt_cmpR op_ne (pe_g NB c4 rfl G.ba kB bB quiets (pa_cons (pv 1) pa_nil)) (pe_join pe_str (pe_lc (own := [("mark", 5), ("size", 6)]) (g := gTup K 2 (gCons (gName 5) (gCons (gName 6) gNil))) (tt := tYes) rfl scTo.nd (pi_tup (pv 1)) (blkOk_by (N := toldN) (sc := defScope sTold) (by decide +kernel))
              (fun _ _ _ _ _ => pg_tup rfl (pgs_cons (pg_name (i := 5) scTo.nd rfl (Or.inl rfl)) (pgs_cons (pg_name (i := 6) scTo.nd rfl (Or.inl rfl)) pgs_nil))) (fun _ _ _ _ _ => pts_nil) (fun _ _ _ _ _ => pv 5))) (nomark _))
          (pw_or1 (pt_cmpR op_ne (pe_gk0 NB c4 rfl G.ba kB kbB quiets (pk_cons (pv 1) pk_nil)) (pe_g NB c4 rfl G.ba kB bB quiets (pa_cons (pv 1) pa_nil)) (nomark _)))))
        (pss_one (ps_ret pe_bl)) pss_nil)
      (pss_cons (ps_if (pt_cmpR op_ne (pe_callB (call_repr c) (by rfl) G.repr (by decide +kernel) (pa_cons (pe_lc (own := [("mark", 5), ("size", 6)]) (g := gTup K 2 (gCons (gName 5) (gCons (gName 6) gNil))) (tt := tYes) (te := tCallS (spSizeOf K C B) E00 (tCons (tVar 1) (tCons (tVar 5) tNil))) rfl scTo.nd (pi_tup (pv 1)) (blkOk_by (N := toldN) (sc := defScope sTold) (by decide +kernel))
              (fun _ _ _ _ _ => pg_tup rfl (pgs_cons (pg_name (i := 5) scTo.nd rfl (Or.inl rfl)) (pgs_cons (pg_name (i := 6) scTo.nd rfl (Or.inl rfl)) pgs_nil))) (fun _ _ _ _ _ => pts_nil) (fun _ _ _ _ _ => pe_g NS c4 rfl G.so kS bS quiets (pa_cons (pv 1) (pa_cons (pv 5) pa_nil)))) pa_nil))
          (pe_callB (call_repr c) (by rfl) G.repr (by decide +kernel) (pa_cons (pe_lc (own := [("mark", 5), ("size", 6)]) (g := gTup K 2 (gCons (gName 5) (gCons (gName 6) gNil))) (tt := tYes) rfl scTo.nd (pi_tup (pv 1)) (blkOk_by (N := toldN) (sc := defScope sTold) (by decide +kernel))
              (fun _ _ _ _ _ => pg_tup rfl (pgs_cons (pg_name (i := 5) scTo.nd rfl (Or.inl rfl)) (pgs_cons (pg_name (i := 6) scTo.nd rfl (Or.inl rfl)) pgs_nil))) (fun _ _ _ _ _ => pts_nil) (fun _ _ _ _ _ => pv 6)) pa_nil)) (nomark _))
        (pss_one (ps_ret pe_bl)) pss_nil)
      (pss_cons (ps_set (i := 2) scTo.nd rfl (Or.inl rfl) pe_str)
      (pss_cons (ps_setLc (i := 3) (own := [("one", 7)]) (g := gName 7) (tt := tTest (tOp (fun x y H Q => ∃ (c : Nat) (z : Str), x = .str ⟨#[c]⟩ ∧ y = .str z ∧ Q (.bl (!decide (c ∈ z.cps.toList))) H) (tVar 7) (tCallS (spBadges K C) E00 (tCons (tVar 1) tNil)))) rfl scTo.nd rfl rfl (sw_true rfl rfl rfl (by decide +kernel)) (pi_str (pv 2)) (blkOk_by (N := toldN) (sc := defScope sTold) (by decide +kernel))
          (fun _ _ _ _ _ => pg_name (i := 7) scTo.nd rfl (Or.inl rfl)) (fun _ _ _ _ _ => pts_one (pt_cmpR op_notIn_sign (pv 7) (pe_g NB c4 rfl G.ba kB bB quiets (pa_cons (pv 1) pa_nil)) (by rfl))) (fun _ _ _ _ _ => pv 7))
      (pss_cons (ps_for (passes_of rfl) rfl (pi_list (pe_lst (pa_cons (pe_ix ix_list (pv 3) (pe_g N2 c2 rfl G.nxt kN bN quiets (pa_cons (pv 0) (pa_cons (pe_callB call_len_seq (by rfl) G.len PySem.boot_len (pa_cons (pv 3) pa_nil)) pa_nil))) (fun _ _ => rfl))
            (pa_cons (pe_op op_add_str (pe_ix ix_tup (pe_ix ix_tup (pv 1) pe_int (fun _ _ => rfl)) pe_int (fun _ _ => rfl)) (pe_ix ix_tup (pe_ix ix_tup (pv 1) pe_int (fun _ _ => rfl)) pe_int (fun _ _ => rfl)))
            (pa_cons pe_str (pa_cons pe_non (pa_cons pe_int (pa_cons pe_bl (pa_cons (pe_lst (pa_cons pe_str pa_nil)) (pa_cons pe_dnewK (pa_cons (pv 1) pa_nil))))))))))) (pg_name (i := 4) scTo.nd rfl (Or.inl rfl))
          (pss_cons (ps_if (pt_cmpR op_ne (pe_callB (call_repr c) (by rfl) G.repr (by decide +kernel) (pa_cons (pe_g NW c rfl G.sw kW bW quiets (pa_cons (pv 1) (pa_cons (pv 4) pa_nil))) pa_nil)) (pe_callB (call_repr c) (by rfl) G.repr (by decide +kernel) (pa_cons (pe_lst (pa_cons pe_str (pa_cons (pv 4) pa_nil))) pa_nil)) (nomark _))
            (pss_one (ps_ret pe_bl)) pss_nil)
          (pss_one (ps_if (pt_cmpR (op_neD hun) (pe_g NW c rfl G.sw kW bW quiets (pa_cons (pe_op op_catA (pv 1) (pe_slice sl_tupA (pv 1) po_none (po_some pe_int))) (pa_cons (pv 4) pa_nil)))
              (pe_lst (pa_cons pe_str (pa_cons (pe_ix ix_list (pe_lst (pa_cons (pe_callB call_len_seq (by rfl) G.len PySem.boot_len (pa_cons (pv 1) pa_nil)) (pa_cons pe_non pa_nil))) (pe_callTy call_int1 (by rfl) G.int (by decide +kernel) (pa_cons (pe_cmpR op_eq (pe_callB call_len_seq (by rfl) G.len PySem.boot_len (pa_cons (pv 1) pa_nil)) pe_int (nomark _)) pa_nil)) (fun _ _ => rfl)) pa_nil))) (nomark _))
            (pss_one (ps_ret pe_bl)) pss_nil))))
      (pss_one (ps_ret pe_bl)))))), ?_⟩
    walk_at "run"
    have hn1 : 0 < rs.length := hok.1
    have hDr := hD
    have hn4 := hok.2.1
    have dzr : ∀ {H'}, Same H H' → Dz K H' (.ref a) (roD rs) := fun h => ro_dz (hR.keep fun b xs q => h b _ q)
    have rk : ∀ {H'}, Same H H' → Ro H' a rs := fun h => hR.keep fun b xs q => h b _ q
    have ba : ∀ {H' : Hp} {Q' : VK} {E' : XK}, Same H H' → (∀ H'', Same H' H'' → Q' (.str (badgesD (roD rs))) H'') → spBadges K C [.ref a] H' Q' E' := fun {H' Q' E'} s q => by
      refine ⟨.ref a, roD rs, rfl, dzr s, ro_txt rs, ?_⟩
      rw [ro_good hok]
      exact q
    refine ba (fun _ _ h => h) fun H1 s1 => ?_
    walk_at "run"
    refine ⟨a, rfl, (by obtain ⟨ps, h, _⟩ := rk s1; exact ⟨_, SqT.of h⟩), fun D hD => ro_lc (f := fun r => .str ⟨#[r.1]⟩) (rk s1) hn4 hD (fun _ _ => rfl) ?_ ?_⟩
    · intro i hi H2 Q2 s2 q2
      walk_at "run"
      exact q2 H2 (fun _ _ h => h)
    intro H2 s2 hD2
    have S2 := same_tr s1 s2
    have ones : ∀ y ∈ rs.map (fun r => (⟨#[r.1]⟩ : Str)), y.length = 1 := fun y hy => by
      obtain ⟨r, _, rfl⟩ := List.mem_map.mp hy
      rfl
    refine ⟨"", D, rs.map (fun r => (⟨#[r.1]⟩ : Str)), rfl, rfl, Or.inl (SqL.of (by rw [hD2, List.map_map]; rfl)), ?_, ?_⟩
    · rw [sum_ones _ ones, List.length_map]
      show rs.length + rs.length * 0 ≤ 16777216
      omega
    rw [badges_join rs]
    refine n_ne rfl ⟨_, rfl, ?_⟩
    refine n_ite (fun h => absurd h (by simp)) (fun _ => ?_)
    walk_at "run"
    refine ba S2 fun H3 s3 => ?_
    have S3 := same_tr S2 s3
    walk_at "run"
    refine ba S3 fun H4 s4 => ?_
    have S4 := same_tr S3 s4
    walk_at "run"
    refine n_ite (fun h => absurd h (by simp)) (fun _ => ?_)
    walk_at "run"
    refine ⟨a, rfl, (by obtain ⟨ps, h, _⟩ := rk S4; exact ⟨_, SqT.of h⟩), fun D2 hD2 => ro_lc (f := fun r => .int r.2) (rk S4) hn4 hD2 (fun _ _ => rfl) ?_ ?_⟩
    · intro i hi H5 Q5 s5 q5
      walk_at "run"
      have hb := hok.2.2.2 _ (List.getElem_mem hi)
      refine ⟨.ref a, roD rs, .str ⟨#[rs[i].1]⟩, .str ⟨#[rs[i].1]⟩, rfl, dzr (same_tr S4 s5), .str _, ro_txt rs, .inl ?_, ?_⟩
      · unfold SeqAt.shaped
        rw [Bool.and_eq_true]
        exact ⟨(ok_str (z := ⟨#[rs[i].1]⟩) fun c hc => by
          have hc' : c ∈ [rs[i].1] := hc
          obtain rfl := List.mem_singleton.mp hc'
          have := hb.2.1
          omega).lay, decide_eq_true (show 0 ≤ 64 by decide)⟩
      · rw [ro_good hok]
        show match sizeIn (rs.map enD) (.str ⟨#[rs[i].1]⟩) with
          | some x => _
          | none => _
        rw [size_at hi hok.2.2.1]
        exact fun H' s => q5 H' s
    intro H5 s5 hD5
    have S5 := same_tr S4 s5
    walk_at "run"
    have oki : OkD (.list (rs.map fun r => .int r.2)) 1 (rs.length * 9) := by
      have := ok_list (k := 0) (W := 8) (ds := rs.map fun r => .int r.2) fun d hd => by
        obtain ⟨r, hr, rfl⟩ := List.mem_map.mp hd
        have hb := hok.2.2.2 r hr
        exact ok_int hb.2.2.1 (by have := hb.2.2.2; omega)
      rw [List.length_map] at this
      exact this
    have si := oki.shw (by decide) (by omega)
    have dzi : ∀ (l : List (Nat × Int)) (H' : Hp), DzA K H' (l.map fun r => V.int r.2) (l.map fun r => .int r.2) := fun l H' => by
      induction l with
      | nil => exact .nil
      | cons x r ih => exact .cons (.int _) ih
    refine ⟨_, _, rfl, .lst (SqL.of hD5) (dzi rs H5), si.1, si.2.1, si.2.2, ?_⟩
    walk_at "run"
    refine ⟨a, rfl, (by obtain ⟨ps, h, _⟩ := rk S5; exact ⟨_, SqT.of h⟩), fun D3 hD3 => ro_lc (f := fun r => .int r.2) (rk S5) hn4 hD3 (fun _ _ => rfl) ?_ ?_⟩
    · intro i hi H6 Q6 s6 q6
      walk_at "run"
      exact q6 H6 (fun _ _ h => h)
    intro H6 s6 hD6
    have S6 := same_tr S5 s6
    walk_at "run"
    refine ⟨_, _, rfl, .lst (SqL.of hD6) (dzi rs H6), si.1, si.2.1, si.2.2, ?_⟩
    walk_at "run"
    refine n_ite (fun h => absurd h (by simp)) (fun _ => ?_)
    walk_at "run"
    refine ⟨abc, rfl, fun D4 hD4 => lc_it walk_str (fun i H' => Same H6 H' ∧ H' D4 = some (.lst (((abc.cps.toList.take i).filter fun c => !decide (c ∈ rs.map (·.1))).map fun c => .str ⟨#[c]⟩)))
      ⟨same_new hD4, upd_same⟩ (fun _ _ _ _ => trivial) ?_ ?_⟩
    · rintro i x H7 H8 hi ⟨h7, hD7⟩ ⟨rfl, c0, hc, rfl⟩
      have hc' : abc.cps.toList[i]? = some c0 := by rw [Array.getElem?_toList]; exact hc
      walk_at "run"
      refine ⟨rfl, ?_⟩
      walk_at "run"
      refine ba (same_tr S6 h7) fun H9 s9 => ?_
      refine ⟨c0, badgesD (roD rs), rfl, rfl, ?_⟩
      rw [ro_badges]
      walk_at "run"
      have t9 := same_tr h7 s9
      have hll : ((abc.cps.toList.take i).filter fun c => !decide (c ∈ rs.map (·.1))).length ≤ 26 := by
        have h1 := List.length_filter_le (fun c => !decide (c ∈ rs.map (·.1))) (abc.cps.toList.take i)
        rw [List.length_take] at h1
        have h2 : abc.cps.toList.length = 26 := by decide +kernel
        omega
      refine n_ite (fun hb => ?_) (fun hb => ?_)
      · walk_at "run"
        refine ⟨_, s9 _ _ hD7, by rw [List.length_map, sizeLine_eq]; omega, fun b u h => by rw [upd_ne (ne_of_none h hD4)]; exact t9 b u h, ?_⟩
        rw [upd_same, take_snoc hc', List.filter_append, List.map_append]
        simp only [List.filter_cons, hb, List.filter_nil, if_true]
        rfl
      · refine ⟨t9, ?_⟩
        rw [take_snoc hc', List.filter_append]
        simp only [List.filter_cons, hb, List.filter_nil, Bool.false_eq_true, if_false, List.append_nil]
        exact s9 _ _ hD7
    rintro H7 ⟨s7, hD7⟩
    have e9 : abc.cps.toList.take abc.cps.size = abc.cps.toList := by rw [← Array.length_toList, List.take_length]
    rw [e9] at hD7
    have S7 := same_tr S6 s7
    have pos := others_pos (bs := rs.map (·.1)) (by rw [List.length_map]; exact hn4)
    have lle : (abc.cps.toList.filter fun c => !decide (c ∈ rs.map (·.1))).length ≤ 26 := by
      have h1 := List.length_filter_le (fun c => !decide (c ∈ rs.map (·.1))) abc.cps.toList
      have h2 : abc.cps.toList.length = 26 := by decide +kernel
      omega
    walk_at "run"
    refine ⟨_, _, rfl, Or.inl (SqL.of hD7), ?_⟩
    rw [List.length_map]
    walk_at "run"
    refine ⟨p, cc, _, m, rfl, hDr.at (fun o h => S7 _ _ h) (fun o h => S7 _ _ h), by omega, by omega, by omega, fun j H8 ja jb D8 k8 => ?_⟩
    have DS7 : Dr H7 p cc m := hDr.at (fun o h => S7 _ _ h) (fun o h => S7 _ _ h)
    have npD : D4 ≠ p := by
      obtain ⟨_, _, _, _, e, _⟩ := DS7
      exact ne_of hD7 e (by intro z; cases z)
    have R8 := (rk S7).keep (DS7.tups k8)
    have K8 : Kp p H H8 := fun b u nb h => k8 b u nb (S7 b u h)
    have hat : ∃ v, atI ((abc.cps.toList.filter fun c => !decide (c ∈ rs.map (·.1))).map fun c => V.str ⟨#[c]⟩) j = some v ∧ v ∈ (abc.cps.toList.filter fun c => !decide (c ∈ rs.map (·.1))).map fun c => V.str ⟨#[c]⟩ := at_in ja (by rw [List.length_map]; exact jb)
    revert hat
    rintro ⟨v, ev, hv⟩
    refine n_ixL (SqL.of (k8 D4 _ npD hD7)) ev ?_
    obtain ⟨c0, hc0, rfl⟩ := List.mem_map.mp hv
    obtain ⟨hca, hcb⟩ := List.mem_filter.mp hc0
    have hc122 : c0 ≤ 122 := (by decide +kernel : ∀ y ∈ abc.cps.toList, y ≤ 122) c0 hca
    have hcn : c0 ∉ rs.map (·.1) := by simpa using hcb
    walk_at "run"
    obtain ⟨ps, hps, hpr⟩ := id R8
    have pl : (ps.map V.ref).length = rs.length := by rw [List.length_map, Paired.length hpr]
    obtain ⟨q0, eq0, hq0⟩ := Ro.at (a := a) hpr hn1
    have at0 : atI (ps.map V.ref) 0 = some (V.ref q0) := atI_nat (by rw [List.getElem?_map, eq0]; rfl)
    have i0 : atI [V.str ⟨#[rs[0].1]⟩, V.int rs[0].2] 0 = some (V.str ⟨#[rs[0].1]⟩) := rfl
    refine n_ixT (SqT.of hps) at0 ?_
    walk_at "run"
    refine n_ixT (SqT.of hq0) i0 ?_
    walk_at "run"
    refine n_ixT (SqT.of hps) at0 ?_
    walk_at "run"
    refine n_ixT (SqT.of hq0) i0 ?_
    refine ⟨_, _, rfl, rfl, (by show 1 + 1 ≤ sizeLine; decide), ?_⟩
    walk_at "run"
    refine ⟨(by show 1 ≤ sizeLine; decide), fun l1 hl1 => ?_⟩
    walk_at "run"
    intro d1 hd1
    walk_at "run"
    refine ⟨(by show 9 ≤ sizeLine; decide), fun L hL => ?_⟩
    have sa := same_new (o := .lst [V.str "a"]) hl1
    have sb := same_new (o := .dK []) hd1
    have sc := same_new (o := .lst [V.str ⟨#[c0]⟩, .str ((⟨#[rs[0].1]⟩ : Str) ++ ⟨#[rs[0].1]⟩), .str "", .non, .int 3, .bl true, .ref l1, .ref d1, .ref a]) hL
    have sbc := same_tr sb sc
    have S := same_tr sa sbc
    have g1 := sbc _ _ (upd_same (H := H8) (a := l1) (o := .lst [V.str "a"]))
    have g2 := sc _ _ (upd_same (a := d1) (o := .dK []))
    have gL : upd (upd (upd H8 l1 (.lst [V.str "a"])) d1 (.dK [])) L (.lst [V.str ⟨#[c0]⟩, .str ((⟨#[rs[0].1]⟩ : Str) ++ ⟨#[rs[0].1]⟩), .str "", .non, .int 3, .bl true, .ref l1, .ref d1, .ref a]) L = some (.lst [V.str ⟨#[c0]⟩, .str ((⟨#[rs[0].1]⟩ : Str) ++ ⟨#[rs[0].1]⟩), .str "", .non, .int 3, .bl true, .ref l1, .ref d1, .ref a]) := upd_same
    generalize upd (upd (upd H8 l1 _) d1 _) L _ = HL at S g1 g2 gL ⊢
    clear sa sb sc sbc
    have RL : Ro HL a rs := R8.keep fun b xs h => S b _ h
    have hr0 := hok.2.2.2 rs[0] (List.getElem_mem hn1)
    have oks : ∀ (z : Str), (∀ c ∈ z.cps.toList, c < 1114112) → z.length ≤ 1000 → SeqAt.shaped (.str z) = true ∧ Shw (.list [.str "badge", .str z]) := fun z hz hl => by
      refine ⟨?_, (ok_list (k := 0) (W := 1000) fun d hd => ?_).shw (by decide) (by show 2 * 1001 ≤ 1048576; decide)⟩
      · unfold SeqAt.shaped
        rw [Bool.and_eq_true]
        exact ⟨(ok_str hz).lay, decide_eq_true (show 0 ≤ 64 by decide)⟩
      · rcases List.mem_cons.mp hd with rfl | hd
        · exact (ok_str (by decide +kernel)).mono (Nat.le_refl _) (by decide)
        · obtain rfl := List.mem_singleton.mp hd
          exact (ok_str hz).mono (Nat.le_refl _) hl
    have okf : ∀ (q : PyData) (k W : Nat), OkD q k W → k ≤ 30 → W ≤ 1000 → SeqAt.shaped q = true ∧ Shw (.list [.str "badge", q]) := fun q k W h hk hW => by
      refine ⟨?_, (ok_list (k := k) (W := 1000) fun d hd => ?_).shw (by omega) (by show 2 * 1001 ≤ 1048576; decide)⟩
      · unfold SeqAt.shaped
        rw [Bool.and_eq_true]
        exact ⟨h.lay, decide_eq_true (by have := h.dep; omega)⟩
      · rcases List.mem_cons.mp hd with rfl | hd
        · exact (ok_str (by decide +kernel)).mono (Nat.zero_le _) (by decide)
        · obtain rfl := List.mem_singleton.mp hd
          exact h.mono (Nat.le_refl _) hW
    have strNe : ∀ (r : Nat × Int) (y : Str), y ≠ ⟨#[r.1]⟩ → PyData.eqv (.str ⟨#[r.1]⟩) (.str y) = false := fun r y h => by
      simp only [PyData.eqv]
      rw [beq_eq_false_iff_ne]
      exact fun e => h e.symm
    have items : ∀ x ∈ [V.str ⟨#[c0]⟩, .str ((⟨#[rs[0].1]⟩ : Str) ++ ⟨#[rs[0].1]⟩), .str "", .non, .int 3, .bl true, .ref l1, .ref d1, .ref a], ∃ q, Dz K HL x q ∧ askD q ∧ (∀ r ∈ rs, PyData.eqv (.str ⟨#[r.1]⟩) q = false) ∧ Shw (.list [.str "badge", q]) := fun x hx => by
      simp only [List.mem_cons, List.not_mem_nil, or_false] at hx
      rcases hx with rfl | rfl | rfl | rfl | rfl | rfl | rfl | rfl | rfl
      · obtain ⟨w1, w2⟩ := oks ⟨#[c0]⟩ (fun c hc => by
          have hc' : c ∈ [c0] := hc
          obtain rfl := List.mem_singleton.mp hc'
          omega) (by show 1 ≤ 1000; decide)
        refine ⟨_, .str _, .inl w1, fun r hr => strNe r _ fun e => ?_, w2⟩
        have : c0 = r.1 := by simpa using e
        exact hcn (this ▸ List.mem_map_of_mem hr)
      · obtain ⟨w1, w2⟩ := oks ((⟨#[rs[0].1]⟩ : Str) ++ ⟨#[rs[0].1]⟩) (fun c hc => by
          have hc' : c ∈ [rs[0].1] ++ [rs[0].1] := by rw [cps_toList_append] at hc; exact hc
          have : c = rs[0].1 := by simpa using hc'
          have := hr0.2.1
          omega) (by rw [strLen_append]; show 1 + 1 ≤ 1000; decide)
        refine ⟨_, .str _, .inl w1, fun r hr => strNe r _ fun e => ?_, w2⟩
        have := congrArg Str.length e
        rw [strLen_append] at this
        exact absurd this (by show ¬ (1 + 1 = 1); decide)
      · obtain ⟨w1, w2⟩ := oks "" (by decide +kernel) (by decide)
        refine ⟨_, .str _, .inl w1, fun r hr => strNe r _ fun e => ?_, w2⟩
        have := congrArg Str.length e
        exact absurd this (by show ¬ (0 = 1); decide)
      · obtain ⟨w1, w2⟩ := okf .none 0 0 ok_none (by decide) (by decide)
        exact ⟨_, .non, .inl w1, fun r hr => rfl, w2⟩
      · obtain ⟨w1, w2⟩ := okf (.int 3) 0 8 (ok_int (by decide) (by decide)) (by decide) (by decide)
        exact ⟨_, .int _, .inl w1, fun r hr => rfl, w2⟩
      · obtain ⟨w1, w2⟩ := okf (.bool true) 0 0 (ok_bool _) (by decide) (by decide)
        exact ⟨_, .bl _, .inl w1, fun r hr => rfl, w2⟩
      · obtain ⟨w1, w2⟩ := okf (.list [.str "a"]) 1 (1 * 2) (ok_list (k := 0) (W := 1) (ds := [.str "a"]) fun d hd => by
          obtain rfl := List.mem_singleton.mp hd
          exact ok_str (by decide +kernel)) (by decide) (by decide)
        exact ⟨_, .lst (SqL.of g1) (.cons (.str _) .nil), .inl w1, fun r hr => rfl, w2⟩
      · refine ⟨_, .dic g2, .inr rfl, fun r hr => rfl, ?_⟩
        unfold Shw
        rw [sizeLine_eq]
        decide +kernel
      · obtain ⟨w1, w2⟩ := okf (roD rs) 2 (rs.length * 19) (ok_ro hok.2.2.2) (by decide) (by omega)
        exact ⟨_, ro_dz RL, .inl w1, fun r hr => rfl, w2⟩
    have DL : Dr HL p cc (m + 1) := D8.at (fun o h => S _ _ h) (fun o h => S _ _ h)
    have KL : Kp p H HL := fun b u nb h => S b u (K8 b u nb h)
    refine ⟨L, rfl, ⟨_, SqL.of gL⟩, for_it walk_list (fun i σ H' => ∃ (x4 : Option V), σ = [some (.ref p), some (.ref a), some (.str abc), some (.ref D4), x4, none, none, none] ∧ Same HL H')
      ⟨_, rfl, fun _ _ h => h⟩ (fun i σ H' _ ⟨_, _, hS⟩ => SqL.of (hS _ _ gL)) ?_ ?_⟩
    · rintro i x σ H9 H10 hi ⟨x4, rfl, hS⟩ ⟨rfl, hx⟩
      obtain ⟨q, hxq, hask, hne, hsh⟩ := items x (List.mem_of_getElem? hx)
      walk_at "run"
      have R9 : Ro H10 a rs := RL.keep fun b xs h => hS _ _ h
      have hx9 := hxq.same hS
      have sw1 : szW (roD rs) q x = [.str "badge", x] := by
        unfold szW
        rw [ro_good hok]
        show (match sizeIn (rs.map enD) q with
          | some x => [V.str "size", x]
          | none => [V.str "badge", x]) = _
        rw [size_none hne]
      refine ⟨.ref a, roD rs, x, q, rfl, ro_dz R9, hx9, ro_txt rs, hask, fun H11 p1 s11 hp1 hv1 => ?_⟩
      rw [sw1] at hv1
      walk_at "run"
      refine ⟨_, .list [.str "badge", q], rfl, .lst (SqL.of hv1) (.cons (.str _) (.cons (hx9.same s11) .nil)), hsh.1, hsh.2.1, hsh.2.2, ?_⟩
      walk_at "run"
      refine ⟨(by show 2 ≤ sizeLine; decide), fun p2 hp2 => ?_⟩
      have s12 := same_new (o := .lst [V.str "badge", x]) hp2
      have S12 := same_tr s11 s12
      walk_at "run"
      refine ⟨_, .list [.str "badge", q], rfl, .lst (SqL.of upd_same) (.cons (.str _) (.cons (hx9.same S12) .nil)), hsh.1, hsh.2.1, hsh.2.2, ?_⟩
      walk_at "run"
      refine n_ite (fun h => absurd h (by simp)) (fun _ => ?_)
      generalize upd H11 p2 (.lst [V.str "badge", x]) = H12 at S12 ⊢
      have R12 : Ro H12 a rs := R9.keep fun b xs h => S12 _ _ h
      walk_at "run"
      obtain ⟨ps2, hps2, hpr2⟩ := id R12
      have pl2 : (ps2.map V.ref).length = rs.length := by rw [List.length_map, Paired.length hpr2]
      obtain ⟨q1, eq1, hq1⟩ := Ro.at (a := a) hpr2 hn1
      have ex1 : (ps2.map V.ref).take 1 = [V.ref q1] := by
        match ps2, eq1 with
        | z :: r, e =>
          have e' : z = q1 := by simpa using e
          rw [e']
          rfl
      have ct : cutV (ps2.map V.ref) none (some (1 : Int)) = (ps2.map V.ref).take 1 := by
        unfold cutV
        have e1 : HT.sIx (ps2.map V.ref).length (ps2.map V.ref).length (some (1 : Int)) = min 1 (ps2.map V.ref).length := HT.sIx_nat _ _ 1
        rw [e1, HT.sIx_none, List.drop_zero, Nat.sub_zero, List.take_eq_take_iff]
        omega
      have K1 : ∀ Q' : VK, (∀ s H', Same H12 H' → SqT K H' s [V.ref q1] → Q' (.ref s) H') → rSlA K (.ref a) none (some 1) H12 Q' := fun Q' k => by
        refine ⟨a, _, rfl, SqT.of hps2, fun hw => ?_, fun hw s hs => ?_⟩
        · refine k a H12 (fun _ _ h => h) ?_
          have h1 := hw.2
          have h2 : HT.sIx (ps2.map V.ref).length (ps2.map V.ref).length (some (1 : Int)) = min 1 (ps2.map V.ref).length := HT.sIx_nat _ _ 1
          rw [h2] at h1
          have : ps2.map V.ref = [V.ref q1] := by rw [← ex1, List.take_of_length_le (by omega)]
          rw [← this]
          exact SqT.of hps2
        · rw [ct, ex1]
          exact k s _ (same_new hs) (SqT.of upd_same)
      refine K1 _ fun s H13 s13 hs13 => ?_
      refine ⟨a, s, _, _, rfl, rfl, SqT.of (s13 _ _ hps2), hs13, (by rw [pl2, sizeLine_eq]; simp; omega), (fun h => by
        rw [h] at pl2
        rw [← pl2] at hn1
        exact absurd hn1 (by decide)), (fun _ h => by cases h), fun _ _ c1 hc1 => ?_⟩
      have s14 := same_new (o := .tup (ps2.map V.ref ++ [V.ref q1])) hc1
      have S14 := same_tr s13 s14
      have hc14 : upd H13 c1 (.tup (ps2.map V.ref ++ [V.ref q1])) c1 = some (.tup (ps2.map V.ref ++ [V.ref q1])) := upd_same
      generalize upd H13 c1 (.tup (ps2.map V.ref ++ [V.ref q1])) = H14 at S14 hc14 ⊢
      have RD : Ro H14 c1 (rs ++ [rs[0]]) := ⟨ps2 ++ [q1], by rw [List.map_append]; exact hc14, paired_snoc (paired_map hpr2 fun b r h => S14 _ _ h) (S14 _ _ hq1)⟩
      have fdp := ro_dup1 hok (r0 := rs[0]) (List.getElem?_eq_getElem hn1)
      walk_at "run"
      have X14 := same_tr S12 S14
      have sw2 : szW (roD (rs ++ [rs[0]])) q x = [.str "roster", if rs.length = 4 then .non else .int (rs.length : Nat)] := by
        unfold szW
        rw [fdp]
      refine ⟨.ref c1, roD (rs ++ [rs[0]]), x, q, rfl, ro_dz RD, hx9.same X14, ro_txt _, hask, fun H15 p3 s15 hp3 hv3 => ?_⟩
      rw [sw2] at hv3
      have X15 := same_tr X14 s15
      have hl15 : SqT K H15 a (ps2.map V.ref) := SqT.of (s15 _ _ (S14 _ _ hps2))
      walk_at "run"
      refine ⟨_, _, rfl, Or.inr hl15, ?_⟩
      rw [pl2]
      walk_at "run"
      refine ⟨(by show 2 ≤ sizeLine; decide), fun p4 hp4 => ?_⟩
      have s16 := same_new (o := .lst [V.int (rs.length : Nat), .non]) hp4
      walk_at "run"
      refine ⟨_, _, rfl, Or.inr (sqt_same s16 hl15), ?_⟩
      rw [pl2]
      walk_at "run"
      refine Or.inr ⟨_, rfl, ?_⟩
      have e4 : atI [V.int (rs.length : Nat), .non] (if decide (V.int (rs.length : Nat) = V.int 4) = true then 1 else 0) = some (if rs.length = 4 then .non else .int (rs.length : Nat)) := by
        by_cases h4 : rs.length = 4
        · rw [if_pos h4, h4]
          rfl
        · rw [if_neg h4, if_neg (by rw [decide_eq_true_eq]; intro q; injection q with q; omega)]
          rfl
      refine n_ixL (SqL.of upd_same) e4 ?_
      walk_at "run"
      refine ⟨(by show 2 ≤ sizeLine; decide), fun p5 hp5 => ?_⟩
      have s17 := same_new (o := .lst [V.str "roster", if rs.length = 4 then .non else .int (rs.length : Nat)]) hp5
      have fl : ∀ y ∈ [V.str "roster", if rs.length = 4 then V.non else .int (rs.length : Nat)], flV y := fun y hy => by
        rcases List.mem_cons.mp hy with rfl | hy
        · exact fl_str (by decide +kernel)
        · obtain rfl := List.mem_singleton.mp hy
          by_cases h4 : rs.length = 4
          · rw [if_pos h4]
            exact .inl rfl
          · rw [if_neg h4]
            exact .inr (.inl ⟨_, rfl⟩)
      refine ⟨_, _, .lst (SqL.of (s17 _ _ (s16 _ _ hv3))) (fls_dpa fl), .lst (SqL.of upd_same) (fls_dpa fl), l_shaped fl, l_shaped fl, ?_⟩
      rw [ne_same (l_shaped fl)]
      walk_at "run"
      exact ⟨_, rfl, same_tr hS (same_tr X15 (same_tr s16 s17))⟩
    · rintro σ H9 ⟨x4, rfl, hS⟩
      walk_at "run"
      exact go H9 ((DL.at (fun o h => hS _ _ h) (fun o h => hS _ _ h)).mono (by omega)) (fun b u nb h => hS _ _ (KL b u nb h))
end

/-! ### the law -/
theorem isX_fault {d : PyData} {x : V} (h : faultD d = some x) : x = .non ∨ ∃ i, x = .int i := by
  match d, h with
  | .tuple ds, h =>
    have h1 : (if (decide (1 ≤ (ds.length : Int)) && decide ((ds.length : Int) ≤ 4)) = true then (faultAt 0 [] ds).map (fun i => V.int (i : Nat)) else some .non) = some x := h
    split at h1
    · obtain ⟨i, _, rfl⟩ := Option.map_eq_some_iff.mp h1
      exact .inr ⟨_, rfl⟩
    · cases h1
      exact .inl rfl
  | .none, h => cases h; exact .inl rfl
  | .bool _, h => cases h; exact .inl rfl
  | .int _, h => cases h; exact .inl rfl
  | .list _, h => cases h; exact .inl rfl
  | .str _, h => cases h; exact .inl rfl
  | .dict _, h => cases h; exact .inl rfl
theorem isX_fl {x : V} (h : x = .non ∨ ∃ i, x = .int i) : flV x := by
  rcases h with rfl | ⟨i, rfl⟩
  · exact .inl rfl
  · exact .inr (.inl ⟨i, rfl⟩)
theorem nil_shaped : SeqAt.shaped (.list []) = true := by decide +kernel
theorem show_bools (b c : Bool) : (PyData.list [.bool b, .bool c]).showable = true ∧ (PyData.list [.bool b, .bool c]).depth ≤ 40 ∧ (PyData.list [.bool b, .bool c]).shown.length ≤ sizeLine := by
  rw [sizeLine_eq]
  cases b <;> cases c <;> decide +kernel

theorem flF_fl {d : PyData} : ∀ x ∈ flF d, flV x := fun x hx => by
  unfold flF at hx
  cases e : faultD d with
  | none =>
    rw [e] at hx
    cases hx
  | some y =>
    rw [e] at hx
    obtain rfl := List.mem_singleton.mp hx
    exact isX_fl (isX_fault e)
theorem flF_nil {d : PyData} : PyData.eqv (.list ((flF d).map xD)) (.list []) = (faultD d).isNone := by
  unfold flF
  cases faultD d with
  | none => rfl
  | some y => rfl
def spLaw (K : PySem.W.Frag) : Sp := fun vs H Q _ => ∃ (a : Addr) (ns : List Int), vs = [.ref a] ∧ SqL K H a (ns.map V.int) ∧ ns.length ≤ 63 ∧ ∀ H', Q (.bl true) H'
theorem scLaw : FnScope ["script", "draw", "turn", "rules", "stays", "what", "due"] ["script"] (defScope sLaw) := ⟨rfl, rfl, rfl, by decide +kernel, rfl, by decide +kernel, by decide +kernel⟩
structure Gl1 (mg : Str → Option Value) (fBe fRo fBt fOd fFa fCk fIs fTo : Addr) : Prop where
  be : mg "_law_begin" = some (.ref fBe)
  ro : mg "_law_roster" = some (.ref fRo)
  bt : mg "_law_bent" = some (.ref fBt)
  od : mg "_law_odd" = some (.ref fOd)
  fa : mg "_law_fault" = some (.ref fFa)
  ck : mg "_law_checked" = some (.ref fCk)
  is : mg "is_roster" = some (.ref fIs)
  to : mg "_law_told_right" = some (.ref fTo)
  range : mg "range" = none
  min : mg "min" = none
  len : mg "len" = none
  repr : mg "repr" = none
  m4 : ∃ u, mg "MAX_BADGES" = some u ∧ RelV (.int 4) u
  m5 : ∃ u, mg "MAX_SIZE" = some u ∧ RelV (.int 5) u
section
variable {P : Program} {w : World} {K : PySem.W.Frag} {mg : Str → Option Value} {base : Heap}
theorem ok_law {f fBe fRo fBt fOd fFa fCk fIs fTo : Addr} {fd dBe dRo dBt dOd dFa dCk dIs dTo : FuncData} (F : Fun K "law" "law" sLaw f fd) (G : Gl1 mg fBe fRo fBt fOd fFa fCk fIs fTo)
    (NBe : FnG P w K mg base 1 fBe dBe ["script"] (spBegin K)) (kBe : PySem.W.keepIn K (.ref fBe) = true) (bBe : Binds K dBe ["script"] [])
    (NRo : FnG P w K mg base 3 fRo dRo ["draw"] spRoster) (kRo : PySem.W.keepIn K (.ref fRo) = true) (bRo : Binds K dRo ["draw"] [])
    (NBt : FnG P w K mg base 4 fBt dBt ["draw", "rules"] (spBent K)) (kBt : PySem.W.keepIn K (.ref fBt) = true) (bBt : Binds K dBt ["draw", "rules"] [])
    (NOd : FnG P w K mg base 3 fOd dOd ["draw"] (spOdd K)) (kOd : PySem.W.keepIn K (.ref fOd) = true) (bOd : Binds K dOd ["draw"] [])
    (NFa : FnG P w K mg base 1 fFa dFa ["what"] (spFault K)) (kFa : PySem.W.keepIn K (.ref fFa) = true) (bFa : Binds K dFa ["what"] [])
    (NCk : FnG P w K mg base 4 fCk dCk ["what"] (spCk K)) (kCk : PySem.W.keepIn K (.ref fCk) = true) (bCk : Binds K dCk ["what"] [])
    (NIs : FnG P w K mg base 4 fIs dIs ["thing"] (spIsR K)) (kIs : PySem.W.keepIn K (.ref fIs) = true) (bIs : Binds K dIs ["thing"] []) (kbIs : KBinds K dIs ["thing"] ["thing"] byName byName)
    (NTo : FnG P w K mg base 6 fTo dTo ["draw", "rules"] (spTold K)) (kTo : PySem.W.keepIn K (.ref fTo) = true) (bTo : Binds K dTo ["draw", "rules"] []) :
    FnG P w K mg base 7 f fd ["script"] (spLaw K) := by
  refine def_ok F scLaw (fun vs H Q E h => ?_) (fun cdv A fr s H vs Q E c h => ?_)
  · obtain ⟨_, _, rfl, _⟩ := h
    rfl
  · obtain ⟨a, ns, rfl, hs, hns, go⟩ := h
    have c1 : Calm 1 _ := c.mono (by decide)
    have c3 : Calm 3 _ := c.mono (by decide)
    have c4 : Calm 4 _ := c.mono (by decide)
    have hun := c.room.units
    refine ⟨_, pss_cons (ps_set (i := 1) scLaw.nd rfl (Or.inl rfl) (pe_g NBe c1 rfl G.be kBe bBe quiets (pa_cons (pv 0) pa_nil)))
      (pss_cons (ps_if (pt_cmpR (op_neD hun) (pe_lst (pa_cons (pe_gk1 rfl G.m4) (pa_cons (pe_gk1 rfl G.m5) pa_nil))) (pe_lst (pa_cons pe_int (pa_cons pe_int pa_nil))) (nomark _)) (pss_one (ps_ret pe_bl)) pss_nil)
      (pss_cons (ps_for (passes_of rfl) rfl (pi_range1 rfl G.range (pa_cons (pe_callB (call_min2 rfl) (by rfl) G.min (by decide +kernel) (pa_cons pe_int (pa_cons (pe_op op_add pe_int (pe_callB call_len_seq (by rfl) G.len PySem.boot_len (pa_cons (pv 0) pa_nil))) pa_nil))) pa_nil)) (pg_name (i := 2) scLaw.nd rfl (Or.inl rfl))
        (pss_cons (ps_set (i := 3) scLaw.nd rfl (Or.inl rfl) (pe_g NRo c3 rfl G.ro kRo bRo quiets (pa_cons (pv 1) pa_nil)))
        (pss_cons (ps_set (i := 4) scLaw.nd rfl (Or.inl rfl) (pe_callB (call_repr c) (by rfl) G.repr (by decide +kernel) (pa_cons (pv 3) pa_nil)))
        (pss_cons (ps_for (passes_of rfl) rfl (pi_list (pe_lst (pa_cons (pv 3) (pa_cons (pe_g NBt c4 rfl G.bt kBt bBt quiets (pa_cons (pv 1) (pa_cons (pv 3) pa_nil))) (pa_cons (pe_g NBt c4 rfl G.bt kBt bBt quiets (pa_cons (pv 1) (pa_cons (pv 3) pa_nil))) (pa_cons (pe_g NOd c3 rfl G.od kOd bOd quiets (pa_cons (pv 1) pa_nil)) pa_nil)))))) (pg_name (i := 5) scLaw.nd rfl (Or.inl rfl))
          (pss_cons (ps_set (i := 6) scLaw.nd rfl (Or.inl rfl) (pe_g NFa c1 rfl G.fa kFa bFa quiets (pa_cons (pv 5) pa_nil)))
          (pss_one (ps_if (PW.pt (pw_or (pt_cmpR (op_neD hun) (pe_g NCk c4 rfl G.ck kCk bCk quiets (pa_cons (pv 5) pa_nil)) (pv 6) (nomark _))
              (pw_or1 (pt_cmpR op_ne (pe_callB (call_repr c) (by rfl) G.repr (by decide +kernel) (pa_cons (pe_lst (pa_cons (pe_g NIs c4 rfl G.is kIs bIs quiets (pa_cons (pv 5) pa_nil)) (pa_cons (pe_gk0 NIs c4 rfl G.is kIs kbIs quiets (pk_cons (pv 5) pk_nil)) pa_nil))) pa_nil))
                (pe_callB (call_repr c) (by rfl) G.repr (by decide +kernel) (pa_cons (pe_op op_rep (pe_lst (pa_cons (pe_cmpR (op_eqD hun) (pv 6) (pe_lst pa_nil) (nomark _)) pa_nil)) pe_int) pa_nil)) (nomark _)))))
            (pss_one (ps_ret pe_bl)) pss_nil))))
        (pss_one (ps_if (PW.pt (pw_or (pt_not (pt_val (pe_g NTo (c.mono (by decide)) rfl G.to kTo bTo quiets (pa_cons (pv 1) (pa_cons (pv 3) pa_nil))))) (pw_or1 (pt_cmpR op_ne (pe_callB (call_repr c) (by rfl) G.repr (by decide +kernel) (pa_cons (pv 3) pa_nil)) (pv 4) (nomark _)))))
          (pss_one (ps_ret pe_bl)) pss_nil))))))
      (pss_one (ps_ret pe_bl)))), ?_⟩
    walk_at "run"
    refine ⟨a, ns, rfl, hs, hns, fun p cc H1 hp hcc D1 s1 => ?_⟩
    walk_at "run"
    refine ⟨(by show 2 ≤ sizeLine; decide), fun m1 hm1 => ?_⟩
    have sm1 := same_new (o := .lst [V.int 4, .int 5]) hm1
    walk_at "run"
    refine ⟨(by show 2 ≤ sizeLine; decide), fun m2 hm2 => ?_⟩
    have sm2 := same_new (o := .lst [V.int 4, .int 5]) hm2
    refine ⟨.list [.int 4, .int 5], .list [.int 4, .int 5], .lst (SqL.of (sm2 _ _ upd_same)) (.cons (.int _) (.cons (.int _) .nil)), .lst (SqL.of upd_same) (.cons (.int _) (.cons (.int _) .nil)), by decide +kernel, by decide +kernel, ?_⟩
    rw [ne_same (by decide +kernel : SeqAt.shaped (.list [.int 4, .int 5]) = true)]
    have sM := same_tr sm1 sm2
    generalize upd (upd H1 m1 _) m2 _ = HM at sM ⊢
    clear sm1 sm2
    walk_at "run"
    refine ⟨_, _, rfl, Or.inl (Same.seq sM (Same.seq s1 hs)), ?_⟩
    walk_at "run"
    refine ⟨_, _, rfl, ?_⟩
    walk_at "run"
    have hm : (if (5 : Int) + ((ns.map V.int).length : Int) < 24 then (5 : Int) + ((ns.map V.int).length : Int) else 24) ≤ 24 := by split <;> omega
    generalize hmm : (if (5 : Int) + ((ns.map V.int).length : Int) < 24 then (5 : Int) + ((ns.map V.int).length : Int) else 24) = mm at hm
    have hm0 : 0 ≤ mm := by rw [← hmm]; split <;> omega
    refine ⟨_, rfl, by omega, by omega, for_range (n := mm.toNat) (fun i σ H' => ∃ (x2 x3 x4 x5 x6 : Option V), σ = [some (.ref a), some (.ref p), x2, x3, x4, x5, x6] ∧ Dr H' p cc (100 * i))
      ⟨_, _, _, _, _, rfl, D1.at (fun o h => sM _ _ h) (fun o h => sM _ _ h)⟩ ?_ ?_⟩
    · rintro i σ H2 hi ⟨x2, x3, x4, x5, x6, rfl, D2⟩
      walk_at "run"
      refine ⟨p, cc, 100 * i, rfl, D2, by omega, fun ra rs H3 hR3 hok hra D3 k3 => ?_⟩
      have sro : Shw (roD rs) := (ok_ro hok.2.2.2).shw (by decide) (by have := hok.2.1; omega)
      walk_at "run"
      refine ⟨.ref ra, roD rs, rfl, ro_dz hR3, sro.1, sro.2.1, sro.2.2, ?_⟩
      walk_at "run"
      refine ⟨p, cc, ra, rs, _, rfl, D3, by omega, hR3, hok, fun u1 l1 H5 hu1 hg1 D5 k5 => ?_⟩
      have hR5 := hR3.keep (D3.tups k5)
      walk_at "run"
      refine ⟨p, cc, ra, rs, _, rfl, D5, by omega, hR5, hok, fun u2 l2 H6 hu2 hg2 D6 k6 => ?_⟩
      have hR6 := hR5.keep (D5.tups k6)
      walk_at "run"
      refine ⟨p, cc, _, rfl, D6, by omega, fun u3 l3 H7 hu3 hg3 D7 k7 => ?_⟩
      have hR7 := hR6.keep (D6.tups k7)
      have hu1' := Dz.kd (D6.kd k7) (Dz.kd (D5.kd k6) hu1)
      have hu2' := Dz.kd (D6.kd k7) hu2
      walk_at "run"
      refine ⟨(by show 4 ≤ sizeLine; decide), fun L hL => ?_⟩
      have sL := same_new (o := .lst [V.ref ra, u1, u2, u3]) hL
      have items : ∀ x ∈ [V.ref ra, u1, u2, u3], ∃ l, Dz K (upd H7 L (.lst [V.ref ra, u1, u2, u3])) x l ∧ dp1 (dp1 txt) l := fun x hx => by
        simp only [List.mem_cons, List.not_mem_nil, or_false] at hx
        rcases hx with rfl | rfl | rfl | rfl
        · exact ⟨_, (ro_dz hR7).same sL, ro_txt rs⟩
        · exact ⟨l1, hu1'.same sL, hg1⟩
        · exact ⟨l2, hu2'.same sL, hg2⟩
        · exact ⟨l3, hu3.same sL, hg3.1⟩
      have D8 : Dr (upd H7 L (.lst [V.ref ra, u1, u2, u3])) p cc _ := D7.new hL
      have hR8 : Ro (upd H7 L (.lst [V.ref ra, u1, u2, u3])) ra rs := hR7.keep fun b xs h => sL _ _ h
      have hLl : upd H7 L (.lst [V.ref ra, u1, u2, u3]) L = some (.lst [V.ref ra, u1, u2, u3]) := upd_same
      generalize upd H7 L (.lst [V.ref ra, u1, u2, u3]) = H8 at items D8 hR8 hLl ⊢
      refine ⟨L, rfl, ⟨_, SqL.of hLl⟩, for_it walk_list (fun j σ H' => ∃ (y5 y6 : Option V), σ = [some (.ref a), some (.ref p), some (.int (0 + (i : Int))), some (.ref ra), some (.str (roD rs).shown), y5, y6] ∧ Same H8 H')
        ⟨_, _, rfl, fun _ _ h => h⟩ (fun j σ H' _ ⟨_, _, _, hS⟩ => SqL.of (hS _ _ hLl)) ?_ ?_⟩
      · rintro j x σ H9 H10 hj ⟨y5, y6, rfl, hS⟩ ⟨rfl, hx⟩
        obtain ⟨l, hxl, hg⟩ := items x (List.mem_of_getElem? hx)
        have hx9 := hxl.same hS
        walk_at "run"
        refine ⟨x, l, rfl, hx9, hg, fun H11 p1 s11 hp1 hv1 => ?_⟩
        walk_at "run"
        refine ⟨x, l, rfl, hx9.same s11, hg, fun H12 p2 s12 hp2 hv2 => ?_⟩
        walk_at "run"
        refine ⟨_, _, .lst (SqL.of hv2) (fls_dpa flF_fl), .lst (SqL.of (s12 _ _ hv1)) (fls_dpa flF_fl), l_shaped flF_fl, l_shaped flF_fl, ?_⟩
        rw [ne_same (l_shaped flF_fl)]
        have S12 := same_tr s11 s12
        walk_at "run"
        refine ⟨x, l, rfl, hx9.same S12, hg, fun H13 s13 => ?_⟩
        have S13 := same_tr S12 s13
        walk_at "run"
        refine ⟨x, l, rfl, hx9.same S13, hg, fun H14 s14 => ?_⟩
        have S14 := same_tr S13 s14
        walk_at "run"
        refine ⟨(by show 2 ≤ sizeLine; decide), fun p3 hp3 => ?_⟩
        have s15 := same_new (o := .lst [.bl (faultD l).isNone, .bl (faultD l).isNone]) hp3
        obtain ⟨w1, w2, w3⟩ := show_bools (faultD l).isNone (faultD l).isNone
        walk_at "run"
        refine ⟨_, _, rfl, .lst (SqL.of upd_same) (.cons (.bl _) (.cons (.bl _) .nil)), w1, w2, w3, ?_⟩
        have dv := s15 _ _ (s14 _ _ (s13 _ _ (s12 _ _ hv1)))
        have S15 := same_tr S14 s15
        generalize upd H14 p3 (.lst [.bl (faultD l).isNone, .bl (faultD l).isNone]) = H15 at dv S15 ⊢
        walk_at "run"
        refine ⟨(by show 0 ≤ sizeLine; exact Nat.zero_le _), fun p4 hp4 => ?_⟩
        have s16 := same_new (o := .lst []) hp4
        refine ⟨_, _, .lst (SqL.of (s16 _ _ dv)) (fls_dpa flF_fl), .lst (SqL.of upd_same) .nil, l_shaped flF_fl, nil_shaped, ?_⟩
        rw [flF_nil]
        walk_at "run"
        refine ⟨(by show 1 ≤ sizeLine; decide), fun p5 hp5 => ?_⟩
        have s17 := same_new (o := .lst [.bl (faultD l).isNone]) hp5
        walk_at "run"
        refine ⟨p5, 2, [.bl (faultD l).isNone], rfl, rfl, upd_same, by decide, by decide, (by show 1 * 2 ≤ sizeLine; decide), fun p6 hp6 => ?_⟩
        have s18 := same_new (o := .lst (List.replicate (2 : Int).toNat [V.bl (faultD l).isNone]).flatten) hp6
        walk_at "run"
        refine ⟨_, .list [.bool (faultD l).isNone, .bool (faultD l).isNone], rfl, .lst (SqL.of (xs := [.bl (faultD l).isNone, .bl (faultD l).isNone]) upd_same) (.cons (.bl _) (.cons (.bl _) .nil)), w1, w2, w3, ?_⟩
        walk_at "run"
        refine n_ite (fun h => absurd h (by simp)) (fun _ => ?_)
        walk_at "run"
        exact ⟨_, _, rfl, same_tr hS (same_tr S15 (same_tr s16 (same_tr s17 s18)))⟩
      rintro σ H9 ⟨y5, y6, rfl, s9⟩
      have D9 : Dr H9 p cc _ := D8.at (fun o h => s9 _ _ h) (fun o h => s9 _ _ h)
      have hR9 : Ro H9 ra rs := hR8.keep fun b xs h => s9 _ _ h
      walk_at "run"
      refine ⟨p, cc, ra, rs, _, rfl, D9, by omega, hR9, hok, fun H10 D10 k10 => ?_⟩
      walk_at "run"
      refine iteF ?_
      walk_at "run"
      refine ⟨.ref ra, roD rs, rfl, ro_dz (hR9.keep (D9.tups k10)), sro.1, sro.2.1, sro.2.2, ?_⟩
      walk_at "run"
      refine n_ite (fun h => absurd h (by simp)) (fun _ => ?_)
      walk_at "run"
      exact ⟨_, _, _, _, _, rfl, D10.mono (by omega)⟩
    · rintro σ H2 ⟨x2, x3, x4, x5, x6, rfl, D2⟩
      walk_at "run"
      exact go H2
end

/-! ### the end -/
theorem split2 {α : Type} {us ws : List α} (h : us.length + ws.length = 2) : (us = [] ∧ ∃ a b, ws = [a, b]) ∨ ((∃ a, us = [a]) ∧ ∃ b, ws = [b]) ∨ ((∃ a b, us = [a, b]) ∧ ws = []) := by
  match us, ws, h with
  | [], [a, b], _ => exact .inl ⟨rfl, a, b, rfl⟩
  | [a], [b], _ => exact .inr (.inl ⟨⟨a, rfl⟩, b, rfl⟩)
  | [a, b], [], _ => exact .inr (.inr ⟨⟨a, b, rfl⟩, rfl⟩)
  | [], [], h => simp at h
  | [], [_], h => simp at h
  | [], _ :: _ :: _ :: _, h => simp at h
  | [_], [], h => simp at h
  | [_], _ :: _ :: _, h => (simp at h; omega)
  | [_, _], _ :: _, h => simp at h
  | _ :: _ :: _ :: _, _, h => (simp at h; omega)
def inner (i k : Nat) : Stmt := match top i with
  | .ClassDef _ _ _ b _ _ _ _ _ _ _ => b.getD k (.Pass ⟨0, 0, 0, 0⟩)
  | _ => .Pass ⟨0, 0, 0, 0⟩
abbrev sIniR : Stmt := inner 2 0
abbrev sIniB : Stmt := inner 4 0
theorem scIR : FnScope ["self", "entry"] ["self", "entry"] (defScope sIniR) := ⟨rfl, rfl, rfl, by decide +kernel, rfl, by decide +kernel, by decide +kernel⟩
theorem scIB : FnScope ["self", "badge"] ["self", "badge"] (defScope sIniB) := ⟨rfl, rfl, rfl, by decide +kernel, rfl, by decide +kernel, by decide +kernel⟩
theorem all_mk {P : Program} {wd : World} {K : PySem.W.Frag} {h : Heap} {mg : Str → Option Value} {fa C C2 B c1 c2 c3 : Addr} {t4 t5 : Tok} (X : K.In h) (G : h.Ns mainGlobals mg) (hfa : mg "law" = some (.ref fa))
    (aC : PySem.W.nsIn K mainGlobals "InvalidRoster" = some (some (.ref C))) (aC2 : PySem.W.nsIn K mainGlobals "InvalidPeople" = some (some (.ref C2))) (aB : PySem.W.nsIn K mainGlobals "InvalidBadge" = some (some (.ref B)))
    (a1 : PySem.W.nsIn K mainGlobals "CrewError" = some (some (.ref c1))) (a2 : PySem.W.nsIn K mainGlobals "StateError" = some (some (.ref c2))) (a3 : PySem.W.nsIn K mainGlobals "MissingError" = some (some (.ref c3)))
    (eR : En K "InvalidRoster" "InvalidRoster.__init__" "entry" sIniR C) (eB : En K "InvalidBadge" "InvalidBadge.__init__" "badge" sIniB B)
    (k1 : Cl K c1) (k2 : Cl K c2) (k3 : Cl K c3) (kC : Cl K C) (kC2 : Cl K C2) (kB : Cl K B)
    (s11 : PySem.W.subIn K (.ref C) (.ref c1) = some true) (s12 : PySem.W.subIn K (.ref C) (.ref c2) = some false) (s13 : PySem.W.subIn K (.ref C) (.ref c3) = some false)
    (s21 : PySem.W.subIn K (.ref B) (.ref c1) = some true) (s22 : PySem.W.subIn K (.ref B) (.ref c2) = some false) (s23 : PySem.W.subIn K (.ref B) (.ref c3) = some false)
    (sCB : PySem.W.subIn K (.ref C) (.ref B) = some false) (sBB : PySem.W.subIn K (.ref B) (.ref B) = some true) (sBP : PySem.W.subIn K (.ref B) (.ref C2) = some false) (sPP : PySem.W.subIn K (.ref C2) (.ref C2) = some true) (sCC : PySem.W.subIn K (.ref C) (.ref C) = some true)
    (m4 : PySem.W.nsIn K mainGlobals "MAX_BADGES" = some (some (.int 4 t4))) (m5 : PySem.W.nsIn K mainGlobals "MAX_SIZE" = some (some (.int 5 t5)))
    (dCR : Dn K "check_roster" sCheckR) (dIR : Dn K "is_roster" sIsR) (dBa : Dn K "badges_of" sBadges) (dSO : Dn K "size_of" sSizeOf) (dEn : Dn K "_is_entry" sEntry) (dBg : Dn K "_is_badge" sBadge) (dSz : Dn K "_is_size" sSize) (dBe : Dn K "_law_begin" sBegin) (dMi : Dn K "_law_mixed" sMixed) (dNe : Dn K "_law_next" sNext) (dRo : Dn K "_law_roster" sRoster) (dFa : Dn K "_law_fault" sFault) (dOd : Dn K "_law_odd" sOdd) (dBt : Dn K "_law_bent" sBent) (dCk : Dn K "_law_checked" sChecked) (dSw : Dn K "_law_size_word" sSizeW) (dTo : Dn K "_law_told_right" sTold) (dLa : Dn K "law" sLaw)
    (z1 : PySem.W.nsIn K mainGlobals "isinstance" = some none) (z2 : PySem.W.nsIn K mainGlobals "len" = some none) (z3 : PySem.W.nsIn K mainGlobals "str" = some none) (z4 : PySem.W.nsIn K mainGlobals "int" = some none) (z5 : PySem.W.nsIn K mainGlobals "bool" = some none) (z6 : PySem.W.nsIn K mainGlobals "tuple" = some none) (z7 : PySem.W.nsIn K mainGlobals "enumerate" = some none) (z8 : PySem.W.nsIn K mainGlobals "range" = some none) (z9 : PySem.W.nsIn K mainGlobals "min" = some none) (z10 : PySem.W.nsIn K mainGlobals "list" = some none) (z11 : PySem.W.nsIn K mainGlobals "repr" = some none) :
    ∃ fd : FuncData, (∀ (s : Shared) (u : Value), BindsTo s fd ⟨[u], []⟩ [("script", u)]) ∧ ∀ base : Heap, K.In base → base.Ns mainGlobals mg → FnG P wd K mg base 7 fa fd ["script"] (spLaw K) := by
  have mgv : ∀ {n : Str} {v : Value}, PySem.W.nsIn K mainGlobals n = some (some v) → mg n = some v := fun e => PySem.W.mg_of X G e
  have mgn : ∀ {n : Str}, PySem.W.nsIn K mainGlobals n = some none → mg n = none := fun e => PySem.W.mg_none_of X G e
  obtain ⟨fI1, dI1, T1, FI1⟩ := eR
  obtain ⟨fI2, dI2, T2, FI2⟩ := eB
  have T1 := T1 mg (mgv aC)
  have T2 := T2 mg (mgv aB)
  have bI1 : Binds K dI1 ["self", "entry"] [] := FI1.binds fun _ _ _ _ _ _ us hl => match us, hl with | [_, _], _ => (by first | rfl | with_unfolding_all rfl | kernel_rfl)
  have bI2 : Binds K dI2 ["self", "badge"] [] := FI2.binds fun _ _ _ _ _ _ us hl => match us, hl with | [_, _], _ => (by first | rfl | with_unfolding_all rfl | kernel_rfl)
  obtain ⟨fCR, gCR, nCR, FCR⟩ := dCR
  obtain ⟨fIR, gIR, nIR, FIR⟩ := dIR
  obtain ⟨fBa, gBa, nBa, FBa⟩ := dBa
  obtain ⟨fSO, gSO, nSO, FSO⟩ := dSO
  obtain ⟨fEn, gEn, nEn, FEn⟩ := dEn
  obtain ⟨fBg, gBg, nBg, FBg⟩ := dBg
  obtain ⟨fSz, gSz, nSz, FSz⟩ := dSz
  obtain ⟨fBe, gBe, nBe, FBe⟩ := dBe
  obtain ⟨fMi, gMi, nMi, FMi⟩ := dMi
  obtain ⟨fNe, gNe, nNe, FNe⟩ := dNe
  obtain ⟨fRo, gRo, nRo, FRo⟩ := dRo
  obtain ⟨fFa, gFa, nFa, FFa⟩ := dFa
  obtain ⟨fOd, gOd, nOd, FOd⟩ := dOd
  obtain ⟨fBt, gBt, nBt, FBt⟩ := dBt
  obtain ⟨fCk, gCk, nCk, FCk⟩ := dCk
  obtain ⟨fSw, gSw, nSw, FSw⟩ := dSw
  obtain ⟨fTo, gTo, nTo, FTo⟩ := dTo
  obtain ⟨fLa, gLa, nLa, FLa⟩ := dLa
  have e := hfa.symm.trans (mgv nLa)
  cases e
  have bCR := FCR.binds (ps := ["roster"]) fun _ _ _ _ _ _ us hl => match us, hl with | [_], _ => rfl
  have bIR := FIR.binds (ps := ["thing"]) fun _ _ _ _ _ _ us hl => match us, hl with | [_], _ => rfl
  have bBa := FBa.binds (ps := ["roster"]) fun _ _ _ _ _ _ us hl => match us, hl with | [_], _ => rfl
  have bSO := FSO.binds (ps := ["roster", "badge"]) fun _ _ _ _ _ _ us hl => match us, hl with | [_, _], _ => rfl
  have bEn := FEn.binds (ps := ["item"]) fun _ _ _ _ _ _ us hl => match us, hl with | [_], _ => rfl
  have bBg := FBg.binds (ps := ["thing"]) fun _ _ _ _ _ _ us hl => match us, hl with | [_], _ => rfl
  have bSz := FSz.binds (ps := ["thing"]) fun _ _ _ _ _ _ us hl => match us, hl with | [_], _ => rfl
  have bBe := FBe.binds (ps := ["script"]) fun _ _ _ _ _ _ us hl => match us, hl with | [_], _ => rfl
  have bMi := FMi.binds (ps := ["cell", "k"]) fun _ _ _ _ _ _ us hl => match us, hl with | [_, _], _ => rfl
  have bNe := FNe.binds (ps := ["draw", "bound"]) fun _ _ _ _ _ _ us hl => match us, hl with | [_, _], _ => rfl
  have bRo := FRo.binds (ps := ["draw"]) fun _ _ _ _ _ _ us hl => match us, hl with | [_], _ => rfl
  have bFa := FFa.binds (ps := ["what"]) fun _ _ _ _ _ _ us hl => match us, hl with | [_], _ => rfl
  have bOd := FOd.binds (ps := ["draw"]) fun _ _ _ _ _ _ us hl => match us, hl with | [_], _ => rfl
  have bBt := FBt.binds (ps := ["draw", "rules"]) fun _ _ _ _ _ _ us hl => match us, hl with | [_, _], _ => rfl
  have bCk := FCk.binds (ps := ["what"]) fun _ _ _ _ _ _ us hl => match us, hl with | [_], _ => rfl
  have bSw := FSw.binds (ps := ["rules", "mark"]) fun _ _ _ _ _ _ us hl => match us, hl with | [_, _], _ => rfl
  have bTo := FTo.binds (ps := ["draw", "rules"]) fun _ _ _ _ _ _ us hl => match us, hl with | [_, _], _ => rfl
  have kbCR : KBinds K gCR ["roster"] ["roster"] byName byName := kb_of FCR (fun _ _ _ _ _ _ us ws hl => by
    cases us with
    | cons a r => cases hl
    | nil =>
      match ws, hl with
      | [a], _ => rfl) fun r s => by
    cases r with
    | nil => exact s
    | cons _ _ => exact .nil
  have kbIR : KBinds K gIR ["thing"] ["thing"] byName byName := kb_of FIR (fun _ _ _ _ _ _ us ws hl => by
    cases us with
    | cons a r => cases hl
    | nil =>
      match ws, hl with
      | [a], _ => rfl) fun r s => by
    cases r with
    | nil => exact s
    | cons _ _ => exact .nil
  have kbBa : KBinds K gBa ["roster"] ["roster"] byName byName := kb_of FBa (fun _ _ _ _ _ _ us ws hl => by
    cases us with
    | cons a r => cases hl
    | nil =>
      match ws, hl with
      | [a], _ => rfl) fun r s => by
    cases r with
    | nil => exact s
    | cons _ _ => exact .nil
  have kbSO : KBinds K gSO ["roster", "badge"] ["badge", "roster"] (fun us ws => us ++ ws.reverse) (fun us ws => us ++ ws.reverse) := kb_of FSO (fun _ _ _ _ _ _ us ws hl => by
    rcases split2 (by simpa using hl) with ⟨rfl, a, b, rfl⟩ | ⟨⟨a, rfl⟩, b, rfl⟩ | ⟨⟨a, b, rfl⟩, rfl⟩ <;> rfl) fun r s => Vals.append r s.reverse
  have Gi' : Gi mg := ⟨mgn z1, mgn z2, mgn z3, mgn z4, mgn z5, mgn z6, ⟨_, mgv m4, ⟨_, rfl⟩⟩, ⟨_, mgv m5, ⟨_, rfl⟩⟩⟩
  obtain ⟨oc, od, kV, doc, pm, an, cdv, ct, osl, rfl, lk, hcd⟩ := FLa.ex
  refine ⟨PySem.W.fnOf "law" "law" (defArgs sLaw) (defBody sLaw) (defScope sLaw) .none kV doc pm an cdv ct, fun s u => .of_eq rfl, fun base _ _ => ?_⟩
  have II1 : FnOk P wd K mg base (L2.CX P wd) 1 fI1 dI1 ["self", "entry"] (spIni C "entry") := ini_ok T1 FI1 scIR rfl (Or.inl rfl) (Or.inl rfl) (by decide) (by decide)
  have II2 : FnOk P wd K mg base (L2.CX P wd) 1 fI2 dI2 ["self", "badge"] (spIni B "badge") := ini_ok T2 FI2 scIB rfl (Or.inl rfl) (Or.inl rfl) (by decide) (by decide)
  have NEn : FnG P wd K mg base 2 fEn gEn ["item"] (spEntry K) := ok_entry FEn Gi' FBg FSz (mgv nBg) (mgv nSz) bBg bSz
  have NCR : FnG P wd K mg base 3 fCR gCR ["roster"] (spCheckR K C) := ok_checkR FCR Gi' (mgn z7) NEn (mgv nEn) FEn.kp bEn T1 II1 bI1
  have NIR : FnG P wd K mg base 4 fIR gIR ["thing"] (spIsR K) := ok_isR FIR NCR (mgv nCR) FCR.kp bCR (mgv aC) (kC.exm sCC)
  have NBa : FnG P wd K mg base 4 fBa gBa ["roster"] (spBadges K C) := ok_badges FBa NCR (mgv nCR) FCR.kp bCR
  have NSO : FnG P wd K mg base 4 fSO gSO ["roster", "badge"] (spSizeOf K C B) := ok_sizeOf FSO NCR (mgv nCR) FCR.kp bCR T2 II2 bI2
  have NBe : FnG P wd K mg base 1 fBe gBe ["script"] (spBegin K) := ok_begin FBe
  have NNe : FnG P wd K mg base 2 fNe gNe ["draw", "bound"] spNext := ok_next FNe ⟨mgn z2⟩ FMi (mgv nMi) bMi
  have NRo : FnG P wd K mg base 3 fRo gRo ["draw"] spRoster := ok_roster FRo ⟨mgv nNe, mgn z8, mgn z6⟩ NNe FNe.kp bNe
  have NFa : FnG P wd K mg base 1 fFa gFa ["what"] (spFault K) := ok_fault FFa Gi' (mgn z7)
  have NOd : FnG P wd K mg base 3 fOd gOd ["draw"] (spOdd K) := ok_odd FOd (mgv nNe) NNe FNe.kp bNe
  have NBt : FnG P wd K mg base 4 fBt gBt ["draw", "rules"] (spBent K) := ok_bent FBt ⟨mgv nNe, mgv nOd, mgn z2, mgn z10, mgn z3⟩ NNe FNe.kp bNe NOd FOd.kp bOd
  have Gw' : Gw K mg C C2 B c1 c2 c3 := ⟨mgv a1, mgv a2, mgv a3, mgv aC2, exm3 k1 k2 k3 s11 s12 s13, exm3 k1 k2 k3 s21 s22 s23, kit_self, kit_self, kit_no kB sCB sBB, kit_no kC2 sBP sPP⟩
  have NCk : FnG P wd K mg base 4 fCk gCk ["what"] (spCk K) := ok_ck FCk Gw' (mgn z1) T1 NCR (mgv nCR) FCR.kp kbCR
  have NSw : FnG P wd K mg base 5 fSw gSw ["rules", "mark"] (spSw K) := ok_sw FSw Gw' (mgn z1) T1 T2 NSO (mgv nSO) FSO.kp kbSO
  have NTo : FnG P wd K mg base 6 fTo gTo ["draw", "rules"] (spTold K) := ok_told FTo ⟨mgv nNe, mgv nBa, mgv nSO, mgv nSw, mgn z2, mgn z4, mgn z11⟩ NNe FNe.kp bNe NBa FBa.kp bBa kbBa NSO FSO.kp bSO NSw FSw.kp bSw
  exact ok_law FLa ⟨mgv nBe, mgv nRo, mgv nBt, mgv nOd, mgv nFa, mgv nCk, mgv nIR, mgv nTo, mgn z8, mgn z9, mgn z2, mgn z11, ⟨_, mgv m4, ⟨_, rfl⟩⟩, ⟨_, mgv m5, ⟨_, rfl⟩⟩⟩ NBe FBe.kp bBe NRo FRo.kp bRo NBt FBt.kp bBt NOd FOd.kp bOd NFa FFa.kp bFa NCk FCk.kp bCk NIR FIR.kp bIR kbIR NTo FTo.kp bTo

end My
open PySem PySem.W PyProof.Rows
set_option maxRecDepth 100000 in
set_option maxHeartbeats 0 in
theorem PySem.Challenge.cw_crewstep_k01_rosters_holds : PySem.Challenge.rw_crewstep_k01_rosters.Holds := by
  w_on; o_law; k_head; (case hw => w_witness2)
  k_fill
  refine XK.walk_g (l := PySem.Challenge.rw_crewstep_k01_rosters) (sp := My.spLaw) (x := "script") (k := 7) rfl (by decide) rfl ⟨rfl, by decide, by decide⟩ (fun w h Y => PySem.W.kIn_of Y) ?F (fun _ _ a ns hl hS => ⟨a, ns, rfl, hS, hl, fun _ => rfl⟩)
  case F =>
    intro wd mg fa h KX G hmg
    refine' My.all_mk KX G hmg ?aC ?aC2 ?aB ?a1 ?a2 ?a3 ?eR ?eB ?k1 ?k2 ?k3 ?qC ?qC2 ?qB ?s11 ?s12 ?s13 ?s21 ?s22 ?s23 ?sCB ?sBB ?sBP ?sPP ?sCC ?m4 ?m5 ?dCR ?dIR ?dBa ?dSO ?dEn ?dBg ?dSz ?dBe ?dMi ?dNe ?dRo ?dFa ?dOd ?dBt ?dCk ?dSw ?dTo ?dLa ?z1 ?z2 ?z3 ?z4 ?z5 ?z6 ?z7 ?z8 ?z9 ?z10 ?z11
    (case aC => k_is)
    (case aC2 => k_is)
    (case aB => k_is)
    (case a1 => k_is)
    (case a2 => k_is)
    (case a3 => k_is)
    (case eR => (refine' XK.En.mk ?xL ?sa ?exC ?tyC ?kC ?iC ?tI ?nf ?ga ?gg ?hd ?cl ?sg ?tk ?mo ?l ?c ?k; (case xL => k_is); (case sa => k_is); (case exC => k_is); (case tyC => k_is); (case kC => k_is); (case iC => k_is); (case tI => k_is); (case nf => k_is); (case ga => k_is); (case gg => k_is); (case hd => k_is); (case cl => k_is); (case sg => k_is); (case tk => k_is); (case mo => k_is); (case l => k_is); (case c => k_is); (case k => k_is)))
    (case eB => (refine' XK.En.mk ?xL ?sa ?exC ?tyC ?kC ?iC ?tI ?nf ?ga ?gg ?hd ?cl ?sg ?tk ?mo ?l ?c ?k; (case xL => k_is); (case sa => k_is); (case exC => k_is); (case tyC => k_is); (case kC => k_is); (case iC => k_is); (case tI => k_is); (case nf => k_is); (case ga => k_is); (case gg => k_is); (case hd => k_is); (case cl => k_is); (case sg => k_is); (case tk => k_is); (case mo => k_is); (case l => k_is); (case c => k_is); (case k => k_is)))
    (case k1 => (refine' XK.Cl.mk ?ex ?is ?ty; (case ex => k_is); (case is => k_is); (case ty => k_is)))
    (case k2 => (refine' XK.Cl.mk ?ex ?is ?ty; (case ex => k_is); (case is => k_is); (case ty => k_is)))
    (case k3 => (refine' XK.Cl.mk ?ex ?is ?ty; (case ex => k_is); (case is => k_is); (case ty => k_is)))
    (case qC => (refine' XK.Cl.mk ?ex ?is ?ty; (case ex => k_is); (case is => k_is); (case ty => k_is)))
    (case qC2 => (refine' XK.Cl.mk ?ex ?is ?ty; (case ex => k_is); (case is => k_is); (case ty => k_is)))
    (case qB => (refine' XK.Cl.mk ?ex ?is ?ty; (case ex => k_is); (case is => k_is); (case ty => k_is)))
    (case s11 => k_is)
    (case s12 => k_is)
    (case s13 => k_is)
    (case s21 => k_is)
    (case s22 => k_is)
    (case s23 => k_is)
    (case sCB => k_is)
    (case sBB => k_is)
    (case sBP => k_is)
    (case sPP => k_is)
    (case sCC => k_is)
    (case m4 => k_is)
    (case m5 => k_is)
    (case dCR => (refine' XK.Dn.mk ?a ?l ?c ?k; (case a => k_is); (case l => k_is); (case c => k_is); (case k => k_is)))
    (case dIR => (refine' XK.Dn.mk ?a ?l ?c ?k; (case a => k_is); (case l => k_is); (case c => k_is); (case k => k_is)))
    (case dBa => (refine' XK.Dn.mk ?a ?l ?c ?k; (case a => k_is); (case l => k_is); (case c => k_is); (case k => k_is)))
    (case dSO => (refine' XK.Dn.mk ?a ?l ?c ?k; (case a => k_is); (case l => k_is); (case c => k_is); (case k => k_is)))
    (case dEn => (refine' XK.Dn.mk ?a ?l ?c ?k; (case a => k_is); (case l => k_is); (case c => k_is); (case k => k_is)))
    (case dBg => (refine' XK.Dn.mk ?a ?l ?c ?k; (case a => k_is); (case l => k_is); (case c => k_is); (case k => k_is)))
    (case dSz => (refine' XK.Dn.mk ?a ?l ?c ?k; (case a => k_is); (case l => k_is); (case c => k_is); (case k => k_is)))
    (case dBe => (refine' XK.Dn.mk ?a ?l ?c ?k; (case a => k_is); (case l => k_is); (case c => k_is); (case k => k_is)))
    (case dMi => (refine' XK.Dn.mk ?a ?l ?c ?k; (case a => k_is); (case l => k_is); (case c => k_is); (case k => k_is)))
    (case dNe => (refine' XK.Dn.mk ?a ?l ?c ?k; (case a => k_is); (case l => k_is); (case c => k_is); (case k => k_is)))
    (case dRo => (refine' XK.Dn.mk ?a ?l ?c ?k; (case a => k_is); (case l => k_is); (case c => k_is); (case k => k_is)))
    (case dFa => (refine' XK.Dn.mk ?a ?l ?c ?k; (case a => k_is); (case l => k_is); (case c => k_is); (case k => k_is)))
    (case dOd => (refine' XK.Dn.mk ?a ?l ?c ?k; (case a => k_is); (case l => k_is); (case c => k_is); (case k => k_is)))
    (case dBt => (refine' XK.Dn.mk ?a ?l ?c ?k; (case a => k_is); (case l => k_is); (case c => k_is); (case k => k_is)))
    (case dCk => (refine' XK.Dn.mk ?a ?l ?c ?k; (case a => k_is); (case l => k_is); (case c => k_is); (case k => k_is)))
    (case dSw => (refine' XK.Dn.mk ?a ?l ?c ?k; (case a => k_is); (case l => k_is); (case c => k_is); (case k => k_is)))
    (case dTo => (refine' XK.Dn.mk ?a ?l ?c ?k; (case a => k_is); (case l => k_is); (case c => k_is); (case k => k_is)))
    (case dLa => (refine' XK.Dn.mk ?a ?l ?c ?k; (case a => k_is); (case l => k_is); (case c => k_is); (case k => k_is)))
    (case z1 => k_is)
    (case z2 => k_is)
    (case z3 => k_is)
    (case z4 => k_is)
    (case z5 => k_is)
    (case z6 => k_is)
    (case z7 => k_is)
    (case z8 => k_is)
    (case z9 => k_is)
    (case z10 => k_is)
    (case z11 => k_is)

