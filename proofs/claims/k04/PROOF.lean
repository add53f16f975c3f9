import PyProof.Rows.All
import Wide.All
import OpenK.AllK
import Wide.FinOn
import HandS.ForMost
import HandS.ForExc
import HandS.ExcInit
import HandS.ExcField
import HandS.ExcIs
import HandS.IsInst
import HandS.Evl
import HandS.Conv
import HandS.WideMore
import HandS.TupAny
import PyProof.ReprNest
import PyProof.ReprDict
import KE.KExcIs
import KE.GoesEnum
import HandS.Walk
import KE.KTupSum
import PyProof.ListStr
import PySem.Challenge.RW_crewstep_k04_counts_and_turned_rings
set_option Elab.async false
set_option linter.all false
set_option maxRecDepth 100000
set_option maxHeartbeats 4000000
/-! Calls where no repr is under way: a def's promise is asked only of arounds whose guards are empty. -/
namespace XK
open PySem PySem.Spec PyProof.Rows L2

structure Calm (k : Nat) (A : Around) : Prop where
  room : Room k A
  gs : A.guards = some []
theorem Calm.mono {j k : Nat} {A : Around} (c : Calm k A) (h : j ≤ k) : Calm j A := ⟨c.room.mono h, c.gs⟩
theorem Calm.deeper {k : Nat} {A : Around} (c : Calm (k + 1) A) (env : Env) : Calm k (A.deeper env) := ⟨c.room.deeper env, c.gs⟩

structure FnG (P : Program) (w : World) (K : PySem.W.Frag) (mg : Str → Option Value) (base : Heap) (k : Nat) (f : Addr) (fd : FuncData) (ps : List Str) (sp : Sp) : Prop where
  len : ∀ vs H Q E, sp vs H Q E → vs.length = ps.length
  go : ∀ (A : Around) (fr : List Env) (s : Shared) (H : Hp) (ar : Args) (us : List Value) (vs : List V) (Q : VK) (E : XK),
    Calm k A → Env0 P w K mg base A fr s H → BindsTo s fd ar (ps.zip us) → Vals vs us → sp vs H Q E → codeAny (model P w) A (.call (.ref f) ar) (CR (L2.CX P w) fr P w H s Q E) s
section
variable {P : Program} {w : World} {K : PySem.W.Frag} {mg : Str → Option Value} {base : Heap} {j k : Nat} {f : Addr} {fd : FuncData} {ps : List Str} {sp sp' : Sp}
theorem FnG.of (F : FnOk P w K mg base (L2.CX P w) k f fd ps sp) : FnG P w K mg base k f fd ps sp :=
  ⟨F.len, fun A fr s H ar us vs Q E c e b r h => F.run A fr s H ar us vs Q E c.room e b r h⟩
theorem FnG.mono (F : FnG P w K mg base j f fd ps sp) (h : j ≤ k) : FnG P w K mg base k f fd ps sp :=
  ⟨F.len, fun A fr s H ar us vs Q E c => F.go A fr s H ar us vs Q E (c.mono h)⟩
theorem FnG.imp (F : FnG P w K mg base k f fd ps sp) (h : ∀ vs H Q E, sp' vs H Q E → sp vs H Q E) : FnG P w K mg base k f fd ps sp' :=
  ⟨fun vs H Q E q => F.len vs H Q E (h _ _ _ _ q), fun A fr s H ar us vs Q E c e b r q => F.go A fr s H ar us vs Q E c e b r (h _ _ _ _ q)⟩

/-- a def by its body -/
theorem def_ok {x qual : Str} {st : Stmt} {N : List Str} (F : Fun K x qual st f fd) (S : FnScope N ps (defScope st)) (len : ∀ vs H Q E, sp vs H Q E → vs.length = ps.length)
    (body : ∀ (cdv : Value) (A : Around) (fr : List Env) (s : Shared) (H : Hp) (vs : List V) (Q : VK) (E : XK), Calm k (A.deeper (envOfC qual (defScope st) s.heap.objs.size f cdv)) → sp vs H Q E →
      ∃ t, PSs (cxOf (L2.CX P w) P w K mg base N qual (defScope st) f cdv A fr s H E) (defBody st) t ∧ t { nx := fun _ H' => Q .non H', rt := Q } (start N vs) H) : FnG P w K mg base (k + 1) f fd ps sp := by
  obtain ⟨oc, od, kV, doc, pm, an, cdv, ct, osl, rfl, lk, hcd⟩ := F.ex
  refine ⟨len, fun A fr s H ar us vs Q E c e0 hb rv hsp => ?_⟩
  have hin : K.In s.heap := e0.mod.kin.keeps fun b o e => (e0.bs b o e).1
  have nolim : s.heap.NoLimit := e0.mod.nolimit.keeps fun b o e => (e0.bs b o e).1
  have kinds : ∀ y ∈ ps.zip us, (defScope st).names.lookup y.1 = some .local ∨ ((defScope st).names.lookup y.1 = some .cell ∧ ((cellsFrom (s.heap.objs.size + 1) (defScope st).names []).lookup y.1).isSome = true) := by
    rintro ⟨n, v⟩ hy
    have hp := S.par n (List.of_mem_zip hy).1
    rcases hp with hp | hp
    · exact Or.inl hp
    · exact Or.inr ⟨hp, PySem.W.cellsFrom_some _ _ _ (Or.inl hp)⟩
  refine codeAny_call_function c.room.depth (hin _ _ lk) rfl S.co S.gen rfl (PySem.W.codeRec_of hin hcd) (hb _ _ _ _ ?_)
  refine wpAny_newFunctionEnv_cells S.kind kinds fun env he s1 x => ?_
  subst he
  refine ⟨nolim.keeps x.toInCall.keep, codeAny_func ?_⟩
  obtain ⟨t, ht, hq⟩ := body cdv A fr s H vs Q E (c.deeper _) hsp
  have J := inv_start (CX := L2.CX P w) (f := f) (cd := cdv) (qual := qual) (E := E) S c.room.hd e0 (len _ _ _ _ hsp) rv x
  refine wpAny_mono (ht.run [] s1 (start N vs) H _ J hq) (fun fl s' hs => ?_) fun _ _ z => z
  cases fl with
  | ret u =>
    obtain ⟨v, σ', H', J', rv', q⟩ := hs
    exact ⟨v, H', J'.os, J'.bare, J'.base, J'.hok, rv', q⟩
  | next =>
    obtain ⟨σ', H', J', q⟩ := hs
    exact ⟨V.non, H', J'.os, J'.bare, J'.base, J'.hok, rfl, q⟩
  | brk =>
    obtain ⟨_, _, _, q⟩ := hs
    exact q.elim
  | cont =>
    obtain ⟨_, _, _, q⟩ := hs
    exact q.elim
/-- how keywords bind to a def's parameters -/
theorem kb_of {x qual : Str} {st : Stmt} {ks : List Str} {g : List Value → List Value → List Value} {gV : List V → List V → List V} (F : Fun K x qual st f fd)
    (h : ∀ (kV doc pm : Value) (an : Option Addr) (cdv ct : Value) (us ws : List Value), (g us ws).length = ps.length → bindArgs (PySem.W.fnOf x qual (defArgs st) (defBody st) (defScope st) .none kV doc pm an cdv ct) ⟨us, ks.zip ws⟩ = pure (ps.zip (g us ws)))
    (r : ∀ {vs : List V} {us : List Value} {zs : List V} {ws : List Value}, Vals vs us → Vals zs ws → Vals (gV vs zs) (g us ws)) : KBinds K fd ps ks g gV := by
  obtain ⟨oc, od, kV, doc, pm, an, cdv, ct, osl, rfl, lk, hcd⟩ := F.ex
  exact ⟨fun s us ws _ hl => .of_eq (h kV doc pm an cdv ct us ws hl), r⟩
end

/-! ### calls -/
section
variable {X : Cx} {k : Nat} {f : Addr} {fd : FuncData} {ps ks : List Str} {sp : Sp} {E : L2.St → XK} {x : Str} {p pos : Pos} {e : Expr} {es : List Expr} {kws : List Keyword} {t tk : TA}
variable {g : List Value → List Value → List Value} {gV : List V → List V → List V}
theorem go_fn {pins : List (Addr × Obj)} {σ : L2.St} {H : Hp} {s : Shared} {Q : VK} {ar : Args} {us : List Value} {vs : List V} (F : FnG X.prog X.w X.K X.mg X.base k f fd ps sp) (c : Calm k X.A) (hx : PassesAt (L2.CX X.prog X.w) X σ (E σ))
    (I : Inv X pins σ H s) (b : BindsTo s fd ar (ps.zip us)) (r : Vals vs us) (h : sp vs H Q (E σ)) : codeAny (model X.prog X.w) X.A (.call (.ref f) ar) (callEnd (EP X pins σ Q) X.xe) s := by
  refine codeAny_mono (F.go X.A X.stack s H ar us vs Q (E σ) c I.env0 b r h) fun r s' hq => ?_
  cases r with
  | error e => exact hx pins H s e s' I hq
  | ok fl =>
    cases fl with
    | ret u => exact I.after hq
    | next => exact hq.elim
    | brk => exact hq.elim
    | cont => exact hq.elim
/-- f(e, ..) -/
theorem pe_g (F : FnG X.prog X.w X.K X.mg X.base k f fd ps sp) (c : Calm k X.A) (hg : Gl X x) (hm : X.mg x = some (.ref f)) (hk : PySem.W.keepIn X.K (.ref f) = true) (hb : Binds X.K fd ps []) (hx : ∀ σ, PassesAt (L2.CX X.prog X.w) X σ (E σ))
    (ha : PA X (e :: es) t) (hdb : (x == ("__debug__" : Str)) = false := by decide) (he : starEach (e :: es) X.env = (false, eval e X.env) :: starEach es X.env := by rfl) (hpl : (backTo pos (starEach es X.env)).any (·.1) = false := by rfl) :
    PE X (.Call (.Name x p) (e :: es) [] pos) (tCallS sp E t) := by
  refine ⟨fun pins s σ H Q I h => wpAny_Call_Name_kw (ld_glob I hg hm ?_ hdb)⟩
  refine PySem.W.callWith_K (h₀ := X.base) I.ok.mod.kin hk (thn (ha.run pos pins s σ H _ I h) fun us s1 ⟨vs, H1, I1, r, q⟩ => ⟨I1.kIn, ?_⟩) he hpl
  have hl : us.length = ps.length := by rw [← r.length]; exact F.len _ _ _ _ q
  have b := hb s1 us I1.kIn (by rw [List.append_nil]; exact hl)
  rw [List.append_nil] at b
  exact wpAny_call (go_fn F c (hx σ) I1 b r q)
/-- f() -/
theorem pe_g0 (F : FnG X.prog X.w X.K X.mg X.base k f fd ps sp) (c : Calm k X.A) (hg : Gl X x) (hm : X.mg x = some (.ref f)) (hk : PySem.W.keepIn X.K (.ref f) = true) (hb : Binds X.K fd ps []) (hx : ∀ σ, PassesAt (L2.CX X.prog X.w) X σ (E σ))
    (hdb : (x == ("__debug__" : Str)) = false := by decide) : PE X (.Call (.Name x p) [] [] pos) (tCallS sp E tNil) := by
  refine ⟨fun pins s σ H Q I h => wpAny_Call_Name_kw (ld_glob I hg hm (PySem.W.callWith_K0 I.kIn hk ?_) hdb)⟩
  have hl : ([] : List Value).length = ps.length := F.len _ _ _ _ h
  have b := hb s [] I.kIn hl
  exact wpAny_call (go_fn F c (hx σ) I b .nil h)
/-- f(e, .., k = v, ..) -/
def tCallGK (sp : Sp) (gV : List V → List V → List V) (E : L2.St → XK) (t tk : TA) : TE := fun σ H Q => t σ H fun vs H1 => tk σ H1 fun zs H2 => sp (gV vs zs) H2 Q (E σ)
theorem pe_gk (F : FnG X.prog X.w X.K X.mg X.base k f fd ps sp) (c : Calm k X.A) (hg : Gl X x) (hm : X.mg x = some (.ref f)) (hk : PySem.W.keepIn X.K (.ref f) = true) (hb : KBinds X.K fd ps ks g gV) (hx : ∀ σ, PassesAt (L2.CX X.prog X.w) X σ (E σ))
    (ha : PA X (e :: es) t) (hkw : PK X kws tk) (hall : (backToKw pos (keywordEach kws X.env)).all (·.1.isSome) = true := by rfl) (hks : (backToKw pos (keywordEach kws X.env)).filterMap (·.1) = ks := by rfl)
    (hdb : (x == ("__debug__" : Str)) = false := by decide) (he : starEach (e :: es) X.env = (false, eval e X.env) :: starEach es X.env := by rfl)
    (hpl : ((backTo pos (starEach (e :: es) X.env)).any (·.1) || (backToKw pos (keywordEach kws X.env)).any (·.1.isNone)) = false := by rfl) :
    PE X (.Call (.Name x p) (e :: es) kws pos) (tCallGK sp gV E t tk) := by
  refine ⟨fun pins s σ H Q I h => wpAny_Call_Name_kw (ld_glob I hg hm ?_ hdb)⟩
  refine PySem.W.callWith_KW (h₀ := X.base) I.ok.mod.kin hk hall (thn (ha.run pos pins s σ H _ I h) fun us s1 ⟨vs, H1, I1, r, q⟩ => ?_) hpl he
  refine thn (hkw.run pos pins s1 σ H1 _ I1 q) fun ws s2 ⟨zs, H2, I2, rz, q2⟩ => ⟨I2.kIn, ?_⟩
  rw [hks]
  have r2 := hb.rel r rz
  have hl : (g us ws).length = ps.length := by rw [← r2.length]; exact F.len _ _ _ _ q2
  exact wpAny_call (go_fn F c (hx σ) I2 (hb.to s2 us ws I2.kIn hl) r2 q2)
/-- f(k = v, ..) -/
theorem pe_gk0 (F : FnG X.prog X.w X.K X.mg X.base k f fd ps sp) (c : Calm k X.A) (hg : Gl X x) (hm : X.mg x = some (.ref f)) (hk : PySem.W.keepIn X.K (.ref f) = true) (hb : KBinds X.K fd ps ks g gV) (hx : ∀ σ, PassesAt (L2.CX X.prog X.w) X σ (E σ))
    (hkw : PK X kws tk) (hall : (backToKw pos (keywordEach kws X.env)).all (·.1.isSome) = true := by rfl) (hks : (backToKw pos (keywordEach kws X.env)).filterMap (·.1) = ks := by rfl)
    (hdb : (x == ("__debug__" : Str)) = false := by decide) (hpl : ((backTo pos (starEach [] X.env)).any (·.1) || (backToKw pos (keywordEach kws X.env)).any (·.1.isNone)) = false := by rfl) :
    PE X (.Call (.Name x p) [] kws pos) (tCallGK sp gV E tNil tk) := by
  refine ⟨fun pins s σ H Q I h => wpAny_Call_Name_kw (ld_glob I hg hm ?_ hdb)⟩
  refine PySem.W.callWith_KW0 (h₀ := X.base) I.ok.mod.kin hk hall (thn (hkw.run pos pins s σ H _ I h) fun ws s2 ⟨zs, H2, I2, rz, q2⟩ => ⟨I2.kIn, ?_⟩) hpl
  rw [hks]
  have r2 := hb.rel (vs := []) (us := []) .nil rz
  have hl : (g [] ws).length = ps.length := by rw [← r2.length]; exact F.len _ _ _ _ q2
  exact wpAny_call (go_fn F c (hx σ) I2 (hb.to s2 [] ws I2.kIn hl) r2 q2)
end
/-- nothing leaves a callee that promises so -/
theorem quiet {X : Cx} (σ : L2.St) : PassesAt (L2.CX X.prog X.w) X σ E0 := fun _ _ _ _ _ _ ⟨_, _, _, _, _, _, _, _, _, _, _, _, z⟩ => z.elim
abbrev E00 : L2.St → XK := fun _ => E0
theorem quiets {X : Cx} : ∀ σ, PassesAt (L2.CX X.prog X.w) X σ (E00 σ) := fun σ => quiet σ
end XK

/-! repr of data: None, bools, ints, texts, tuples, lists, empty dicts, at any depth. -/
namespace XK
open PySem PySem.Spec PyProof.Rows L2

mutual
inductive Dz (K : PySem.W.Frag) (H : Hp) : V → PyData → Prop
  | non : Dz K H .non .none
  | bl (b : Bool) : Dz K H (.bl b) (.bool b)
  | int (i : Int) : Dz K H (.int i) (.int i)
  | str (x : Str) : Dz K H (.str x) (.str x)
  | lst {a : Addr} {xs : List V} {ds : List PyData} : SqL K H a xs → DzA K H xs ds → Dz K H (.ref a) (.list ds)
  | tup {a : Addr} {xs : List V} {ds : List PyData} : SqT K H a xs → DzA K H xs ds → Dz K H (.ref a) (.tuple ds)
  | dic {a : Addr} : H a = some (.dK []) → Dz K H (.ref a) (.dict [])
inductive DzA (K : PySem.W.Frag) (H : Hp) : List V → List PyData → Prop
  | nil : DzA K H [] []
  | cons {v : V} {vs : List V} {d : PyData} {ds : List PyData} : Dz K H v d → DzA K H vs ds → DzA K H (v :: vs) (d :: ds)
end
mutual
theorem Dp.z {K : PySem.W.Frag} {H : Hp} : ∀ {v : V} {d : PyData}, Dp K H v d → Dz K H v d
  | _, _, .non => .non
  | _, _, .bl b => .bl b
  | _, _, .int i => .int i
  | _, _, .str x => .str x
  | _, _, .lst h a => .lst h (DpAll.z a)
  | _, _, .tup h a => .tup h (DpAll.z a)
theorem DpAll.z {K : PySem.W.Frag} {H : Hp} : ∀ {vs : List V} {ds : List PyData}, DpAll K H vs ds → DzA K H vs ds
  | _, _, .nil => .nil
  | _, _, .cons a b => .cons (Dp.z a) (DpAll.z b)
end

section
variable {X : Cx} {pins : List (Addr × Obj)} {σ : L2.St} {H : Hp} {s : Shared}
theorem emptyDict (I : Inv X pins σ H s) {a : Addr} (h : H a = some (.dK [])) : ∃ (o : Obj) (es : Array DictEntry) (n : Nat), s.heap.get? a = some o ∧ o.cls = .type "dict" ∧ o.data = .dict es n ∧ es.toList = [] ∧ (a == sysModules) = false := by
  obtain ⟨_, hs, vs, kv, o, es, ep, ho, hx, hd, _, hp, _⟩ := (show ObjOk X.prog X.w H s.heap a (.dK []) from I.hok a _ h)
  cases kv
  refine ⟨o, es, ep, ho, hx.1, hd, ?_, hs⟩
  cases e : es.toList with
  | nil => rfl
  | cons x l =>
    rw [e] at hp
    cases hp
mutual
theorem Dz.reads (I : Inv X pins σ H s) : ∀ (d : PyData) (v : V) (u : Value), Dz X.K H v d → RelV v u → ∃ as, Reads s.heap u d as
  | .none, _, _, h, r => by
    cases h
    cases r
    exact ⟨_, Reads.none⟩
  | .bool b, _, _, h, r => by
    cases h
    cases r
    exact ⟨_, Reads.bool b⟩
  | .int i, _, _, h, r => by
    cases h
    obtain ⟨t, rfl⟩ := r
    exact ⟨_, Reads.int i t⟩
  | .str x, _, _, h, r => by
    cases h
    obtain ⟨t, rfl⟩ := r
    exact ⟨_, Reads.str x t⟩
  | .list ds, _, _, h, r => by
    cases h with
    | lst hs ha =>
      cases r
      obtain ⟨its, rv, ⟨o, n, ho, hc, _, hd⟩, _⟩ := I.list hs
      obtain ⟨as, q⟩ := Dz.readsAll I ds _ its ha rv
      exact ⟨_, Reads.list ho hc hd q⟩
  | .tuple ds, _, _, h, r => by
    cases h with
    | tup hs ha =>
      cases r
      obtain ⟨its, rv, ⟨o, ho, hc, n, hd⟩, _⟩ := I.tuple hs
      obtain ⟨as, q⟩ := Dz.readsAll I ds _ its ha rv
      exact ⟨_, Reads.tuple ho hc hd q⟩
  | .dict kvs, _, _, h, r => by
    cases h with
    | dic hs =>
      cases r
      obtain ⟨o, es, n, ho, hc, hd, he, _⟩ := emptyDict I hs
      exact ⟨_, Reads.dict (as := []) (bs := []) ho hc hd (by rw [he]; exact .nil) (by rw [he]; exact .nil)⟩
theorem Dz.readsAll (I : Inv X pins σ H s) : ∀ (ds : List PyData) (vs : List V) (us : List Value), DzA X.K H vs ds → Vals vs us → ∃ as, ReadsAll s.heap us ds as
  | [], _, _, h, r => by
    cases h
    cases r
    exact ⟨_, ReadsAll.nil⟩
  | d :: ds, _, _, h, r => by
    cases h with
    | cons h1 h2 =>
      cases r with
      | cons r1 r2 =>
        obtain ⟨as, q1⟩ := Dz.reads I d _ _ h1 r1
        obtain ⟨bs, q2⟩ := Dz.readsAll I ds _ _ h2 r2
        exact ⟨_, ReadsAll.cons q1 q2⟩
end
mutual
theorem Dz.told (I : Inv X pins σ H s) : ∀ (d : PyData) (v : V) (u : Value), Dz X.K H v d → RelV v u → d.showable = true → d.shown.length ≤ sizeLine → ∃ bs, ReadAtMost s.heap d.depth bs ∧ ReprK X.prog X.w bs s.heap d.depth u d.shown
  | .none, _, _, h, r, _, _ => by
    cases h
    cases r
    exact ⟨[], (fun _ z => nomatch z), by simp only [PyData.shown]; exact .of_is ReprIs.none _ _ _⟩
  | .bool b, _, _, h, r, _, _ => by
    cases h
    cases r
    exact ⟨[], (fun _ z => nomatch z), by simp only [PyData.shown]; exact .of_is (ReprIs.bool b) _ _ _⟩
  | .int i, _, _, h, r, hs, _ => by
    cases h
    obtain ⟨t, rfl⟩ := r
    exact ⟨[], (fun _ z => nomatch z), by simp only [PyData.shown]; exact .of_is (ReprIs.int t (by simpa [PyData.showable] using hs)) _ _ _⟩
  | .str x, _, _, h, r, _, hz => by
    cases h
    obtain ⟨t, rfl⟩ := r
    exact ⟨[], (fun _ z => nomatch z), by simp only [PyData.shown]; exact .of_is (ReprIs.str x t (by simpa only [PyData.shown] using hz)) _ _ _⟩
  | .list ds, v, u, h, r, hs, hz => by
    obtain ⟨_, rd⟩ := Dz.reads I _ _ _ h r
    cases h with
    | @lst a xs _ hq ha =>
      cases r
      obtain ⟨its, rv, ⟨o, n, ho, hc, _, hd⟩, _⟩ := I.list hq
      have hz1 : (listText (PyData.shownAll ds)).length ≤ sizeLine := by simpa only [PyData.shown] using hz
      obtain ⟨bs, hb, hk⟩ := Dz.toldAll I ds _ its ha rv (by simpa [PyData.showable] using hs) (fun t ht => Nat.le_trans (listText_mem_le ht) hz1)
      have hna : a ∉ bs := not_mem_of_deeper rd (by simp only [PyData.depth]; omega) hb
      refine ⟨a :: bs, ReadAtMost.cons rd (by simp only [PyData.depth]; omega) hb, ?_⟩
      simp only [PyData.depth, PyData.shown]
      cases its with
      | nil =>
        cases rv
        cases ha
        simp only [PyData.shownAll]
        rw [listText_nil]
        exact ReprK.listEmpty ho hc hd
      | cons y l => exact ReprK.list ho hc hd hna (by simpa using hk.length_eq) (fun i y e => hk.item i y (by simpa using e))
  | .tuple ds, v, u, h, r, hs, hz => by
    obtain ⟨_, rd⟩ := Dz.reads I _ _ _ h r
    cases h with
    | @tup a xs _ hq ha =>
      cases r
      obtain ⟨its, rv, ⟨o, ho, hc, n, hd⟩, _⟩ := I.tuple hq
      have hz1 : (tupleText (PyData.shownAll ds)).length ≤ sizeLine := by simpa only [PyData.shown] using hz
      obtain ⟨bs, hb, hk⟩ := Dz.toldAll I ds _ its ha rv (by simpa [PyData.showable] using hs) (fun t ht => Nat.le_trans (tupleText_mem_le ht) hz1)
      have hna : a ∉ bs := not_mem_of_deeper rd (by simp only [PyData.depth]; omega) hb
      refine ⟨a :: bs, ReadAtMost.cons rd (by simp only [PyData.depth]; omega) hb, ?_⟩
      simp only [PyData.depth, PyData.shown]
      exact ReprK.tuple ho hc hd hna (by simpa using hk)
  | .dict kvs, v, u, h, r, hs, hz => by
    obtain ⟨_, rd⟩ := Dz.reads I _ _ _ h r
    cases h with
    | @dic a hq =>
      cases r
      obtain ⟨o, es, n, ho, hc, hd, he, hsys⟩ := emptyDict I hq
      refine ⟨[a], fun b hb => ?_, ?_⟩
      · obtain rfl := List.mem_singleton.mp hb
        exact ⟨_, _, rd, Nat.le_refl _⟩
      · have k : ReprEntriesK X.prog X.w [] s.heap 0 es.toList [] := by rw [he]; exact .nil
        exact ReprK.dict (as := []) ho hc hd hsys (by simp) k
theorem Dz.toldAll (I : Inv X pins σ H s) : ∀ (ds : List PyData) (vs : List V) (us : List Value), DzA X.K H vs ds → Vals vs us → PyData.showableAll ds = true → (∀ t ∈ PyData.shownAll ds, t.length ≤ sizeLine) →
    ∃ bs, ReadAtMost s.heap (PyData.depthAll ds) bs ∧ ReprAllK X.prog X.w bs s.heap (PyData.depthAll ds) us (PyData.shownAll ds)
  | [], _, _, h, r, _, _ => by
    cases h
    cases r
    exact ⟨[], (fun _ z => nomatch z), by simp only [PyData.shownAll]; exact .nil⟩
  | d :: ds, _, _, h, r, hs, hz => by
    cases h with
    | cons h1 h2 =>
      cases r with
      | cons r1 r2 =>
        have hs2 : d.showable = true ∧ PyData.showableAll ds = true := by simpa [PyData.showableAll] using hs
        obtain ⟨b1, hb1, k1⟩ := Dz.told I d _ _ h1 r1 hs2.1 (hz _ (by simp only [PyData.shownAll]; exact List.mem_cons_self ..))
        obtain ⟨b2, hb2, k2⟩ := Dz.toldAll I ds _ _ h2 r2 hs2.2 (fun t ht => hz t (by simp only [PyData.shownAll]; exact List.mem_cons_of_mem _ ht))
        refine ⟨b1 ++ b2, ?_, ?_⟩
        · simp only [PyData.depthAll]
          exact (hb1.mono (Nat.le_max_left _ _)).append (hb2.mono (Nat.le_max_right _ _))
        · simp only [PyData.depthAll, PyData.shownAll]
          exact .cons ((k1.more fun b hb => List.mem_append_left _ hb).level_le (Nat.le_max_left _ _)) (k2.more_le (fun b hb => List.mem_append_right _ hb) (Nat.le_max_right _ _))
end
/-- what stands at an address, shown by its type's own repr -/
theorem Dz.shows (I : Inv X pins σ H s) {a : Addr} {d : PyData} (h : Dz X.K H (.ref a) d) (hs : d.showable = true) (hz : d.shown.length ≤ sizeLine) : ∃ T idr, ShowsBy X.prog X.w s.heap a d T idr := by
  obtain ⟨_, rd⟩ := Dz.reads I _ _ (Value.ref a) h rfl
  cases h with
  | @lst _ xs ds hq ha =>
    obtain ⟨its, rv, ⟨o, n, ho, hc, _, hd⟩, _⟩ := I.list hq
    have hz1 : (listText (PyData.shownAll ds)).length ≤ sizeLine := by simpa only [PyData.shown] using hz
    obtain ⟨bs, hb, hk⟩ := Dz.toldAll I ds _ its ha rv (by simpa [PyData.showable] using hs) (fun t ht => Nat.le_trans (listText_mem_le ht) hz1)
    have hna : a ∉ bs := not_mem_of_deeper rd (by simp only [PyData.depth]; omega) hb
    refine ⟨"list", "list.__repr__", F.slot_list_repr.toG, F.slot_list_str, F.slot_list_format, fun s' hk0 => ⟨o, hk0 _ _ ho, hc⟩, fun A E s' Q hg hu hk0 hQ => ?_⟩
    simp only [PyData.depth] at hu
    simp only [PyData.shown] at hQ
    cases its with
    | nil =>
      cases rv
      cases ha
      simp only [PyData.shownAll, listText_nil] at hQ
      exact call_list_repr_empty ⟨o, hk0 _ _ ho, hc⟩ (hk0 _ _ ho) hd (hQ s'.heap _ _ fun _ _ e => e)
    | cons y l => exact call_list_reprK ho hc hd hna (by simpa using hk.length_eq) (fun i z e => hk.item i z (by simpa using e)) hg (fun b _ => Clear.nil b) hu hk0 hQ hz1
  | @tup _ xs ds hq ha =>
    obtain ⟨its, rv, ⟨o, ho, hc, n, hd⟩, _⟩ := I.tuple hq
    have hz1 : (tupleText (PyData.shownAll ds)).length ≤ sizeLine := by simpa only [PyData.shown] using hz
    obtain ⟨bs, hb, hk⟩ := Dz.toldAll I ds _ its ha rv (by simpa [PyData.showable] using hs) (fun t ht => Nat.le_trans (tupleText_mem_le ht) hz1)
    have hna : a ∉ bs := not_mem_of_deeper rd (by simp only [PyData.depth]; omega) hb
    refine ⟨"tuple", "tuple.__repr__", F.slot_tuple_repr, F.slot_tuple_str, F.slot_tuple_format, fun s' hk0 => ⟨o, hk0 _ _ ho, hc⟩, fun A E s' Q hg hu hk0 hQ => ?_⟩
    simp only [PyData.depth] at hu
    simp only [PyData.shown] at hQ
    exact call_tuple_reprK ho hc hd hna (by simpa using hk) hg (fun b _ => Clear.nil b) hu hk0 hQ hz1
  | dic hq =>
    obtain ⟨o, es, n, ho, hc, hd, he, hsys⟩ := emptyDict I hq
    have k : ReprEntriesK X.prog X.w [] s.heap 0 es.toList [] := by rw [he]; exact .nil
    refine ⟨"dict", "dict.__repr__", F.slot_dict_repr, F.slot_dict_str, F.slot_dict_format, fun s' hk0 => ⟨o, hk0 _ _ ho, hc⟩, fun A E s' Q hg hu hk0 hQ => ?_⟩
    simp only [PyData.depth] at hu
    exact call_dict_reprK (as := []) ho hc hd hsys (by simp) k hg (fun b _ => Clear.nil b) (by omega) hk0 hQ (by decide +kernel)
end

/-- repr(x), x data; the answer is a text that its data alone tells -/
def rRepr (K : PySem.W.Frag) : List V → Hp → VK → Prop := fun xs H Q => ∃ v d, xs = [v] ∧ Dz K H v d ∧ d.showable = true ∧ d.depth ≤ 40 ∧ d.shown.length ≤ sizeLine ∧ Q (.str d.shown) H
theorem call_repr {X : Cx} {k : Nat} (c : Calm k X.A) : CallR X (.builtin "repr") (rRepr X.K) := by
  intro pins s σ H xs us Q I r h
  obtain ⟨v, d, rfl, hd, hs, hdp, hz, q⟩ := h
  cases r with
  | cons rv rn =>
    cases rn
    have hu := c.room.units
    cases hd with
    | non =>
      cases rv
      exact PySem.P.repr_of_none ⟨.str _, H, I.tok _, ⟨_, rfl⟩, q⟩
    | bl b =>
      cases rv
      exact PySem.P.repr_of_bool ⟨.str _, H, I.tok _, ⟨_, rfl⟩, q⟩
    | int i =>
      obtain ⟨t, rfl⟩ := rv
      exact PySem.P.repr_of_int (by simpa [PyData.showable] using hs) ⟨.str _, H, I.tok _, ⟨_, rfl⟩, q⟩
    | str x =>
      obtain ⟨t, rfl⟩ := rv
      exact PySem.P.repr_of_str ⟨.str _, H, I.tok _, ⟨_, rfl⟩, q⟩ (by simpa only [PyData.shown] using hz)
    | lst hq ha =>
      cases rv
      obtain ⟨T, idr, S⟩ := Dz.shows I (.lst hq ha) hs hz
      exact call_repr_slot (by omega) (S.typeIs s fun _ _ e => e) S.slotRepr (S.call X.A.in1 X.xe s _ c.gs (by show X.A.units + 1 + _ < cLine; omega) (fun _ _ e => e) fun h' u tk hk => ⟨_, _, rfl, .str _, H, I.kept (t' := tk) hk, ⟨_, rfl⟩, q⟩)
    | tup hq ha =>
      cases rv
      obtain ⟨T, idr, S⟩ := Dz.shows I (.tup hq ha) hs hz
      exact call_repr_slot (by omega) (S.typeIs s fun _ _ e => e) S.slotRepr (S.call X.A.in1 X.xe s _ c.gs (by show X.A.units + 1 + _ < cLine; omega) (fun _ _ e => e) fun h' u tk hk => ⟨_, _, rfl, .str _, H, I.kept (t' := tk) hk, ⟨_, rfl⟩, q⟩)
    | dic hq =>
      cases rv
      obtain ⟨T, idr, S⟩ := Dz.shows I (.dic hq) hs hz
      exact call_repr_slot (by omega) (S.typeIs s fun _ _ e => e) S.slotRepr (S.call X.A.in1 X.xe s _ c.gs (by show X.A.units + 1 + _ < cLine; omega) (fun _ _ e => e) fun h' u tk hk => ⟨_, _, rfl, .str _, H, I.kept (t' := tk) hk, ⟨_, rfl⟩, q⟩)
end XK

/-! A caught exception that is kept: tracked by its class and its own dict. -/
namespace XK
open PySem PySem.Spec PyProof.Rows L2

/-- at a: an exception object of the class cls, its own dict d -/
def Xo (a : Addr) (cls : Value) (d : Option Addr) : HO := .ext fun h => ∃ (oe : Obj) (vs : Array Value), h.get? a = some oe ∧ Zc cls d oe ∧ oe.data = .fields vs
theorem xo_ok {P : Program} {w : World} {H : Hp} {h : Heap} {a : Addr} {cls : Value} {d : Option Addr} {oe : Obj} {vs : Array Value} (e : h.get? a = some oe) (z : Zc cls d oe) (f : oe.data = .fields vs) : ObjOk P w H h a (Xo a cls d) :=
  ⟨⟨oe, vs, e, z, f⟩, ⟨oe, e⟩, fun _ _ ⟨o, v, q, r⟩ k => ⟨o, v, k o q, r⟩⟩
theorem xo_at {P : Program} {w : World} {H : Hp} {h : Heap} {a : Addr} {cls : Value} {d : Option Addr} (ok : HOk P w H h) (e : H a = some (Xo a cls d)) : ∃ (oe : Obj) (vs : Array Value), h.get? a = some oe ∧ Zc cls d oe ∧ oe.data = .fields vs := by
  have x : ObjOk P w H h a (Xo a cls d) := ok a _ e
  exact x.1

section
variable {X : Cx} {pins : List (Addr × Obj)} {σ : L2.St} {H : Hp} {s : Shared} {a : Addr} {cls : Value} {d : Option Addr}
/-- a new exception object is tracked from here on -/
theorem Inv.track (I : Inv X pins σ H s) {oe : Obj} {vs : Array Value} (e : s.heap.get? a = some oe) (z : Zc cls d oe) (f : oe.data = .fields vs) (na : H a = none) (n0 : X.s_0.heap.get? a = none) (np : ∀ p ∈ X.pn ++ pins, p.1 ≠ a) :
    Inv X pins σ (upd H a (Xo a cls d)) s := by
  have nL : X.env.locals ≠ a := fun q => by
    obtain ⟨m, ⟨o, es, ep, ho, hd, _⟩, _⟩ := I.loc
    rw [q, e] at ho
    cases ho
    rw [f] at hd
    cases hd
  have nC : ∀ x c, X.env.cells.lookup x = some c → c ≠ a := fun x c hc q => by
    obtain ⟨v, o, ho, hd⟩ := I.cell x c hc
    rw [q, e] at ho
    cases ho
    rw [f] at hd
    cases hd
  have n0' : ∀ {b : Addr} {o : Obj}, X.s_0.heap.get? b = some o → b ≠ a := fun {b o} q r => by
    rw [r, n0] at q
    cases q
  refine ⟨I.ok, I.os, I.bare, ⟨I.base.keep, I.base.slot, fun b o q n hx => ?_, I.base.there, fun b xs q => ?_, fun b o u q => ?_, fun b ps q => ?_⟩, I.loc, I.cell, ?_, fun x c hc => ?_, fun p hp => ?_, fun b o q => ?_, I.len⟩
  · rw [upd_ne (n0' q)]
    exact I.base.free b o q n hx
  · have r := I.base.tups b xs q
    rw [upd_ne (ne_of_none r na)]
    exact r
  · have r := I.base.frzs b o u q
    rw [upd_ne (ne_of_none r na)]
    exact r
  · obtain ⟨m, r⟩ := I.base.tbls b ps q
    exact ⟨m, by rw [upd_ne (ne_of_none r na)]; exact r⟩
  · rw [upd_ne nL]
    exact I.free
  · rw [upd_ne (nC x c hc)]
    exact I.freeC x c hc
  · obtain ⟨q1, q2, q3, q4, q5⟩ := I.pin p hp
    exact ⟨q1, by rw [upd_ne (np p hp)]; exact q2, q3, q4, q5⟩
  · by_cases hb : b = a
    · subst hb
      rw [upd_same] at q
      cases q
      exact xo_ok e z f
    · rw [upd_ne hb] at q
      exact (I.hok b o q).stay (fun c v _ r => r) (fun c r => by rw [upd_ne (ne_of_none r na)]; exact r) fun c xs r => by rw [upd_ne (ne_of_none r na)]; exact r
theorem Inv.toSuite (I : Inv X pins σ H s) (a : Addr) : Inv (X.suite a (X.pn ++ pins)) [] σ H s :=
  ⟨I.ok.suite _ _, I.os, I.bare, I.base, I.loc, I.cell, I.free, I.freeC, fun p hp => I.pin p (by rw [List.append_nil] at hp; exact hp), I.hok, I.len⟩
theorem Inv.offSuite {pn' : List (Addr × Obj)} (I : Inv (X.suite a (X.pn ++ pins)) pn' σ H s) (ok : X.Ok) : Inv X pins σ H s :=
  ⟨ok, I.os, I.bare, I.base, I.loc, I.cell, I.free, I.freeC, fun p hp => I.pin p (List.mem_append_left _ hp), I.hok, I.len⟩
end
theorem flying_more {base h h' : Heap} {l : List Env} {e : Addr} {Z : Obj → Prop} (x : HandSPX.FlyingZ base l e Z h) (k : ∀ b o, h.get? b = some o → h'.get? b = some o) : HandSPX.FlyingZ base l e Z h' := by
  obtain ⟨x1, x2, x3, oe, vs, T, oT, ts, y1, y2, y3, y4, y5, y6, y7, y8, y9⟩ := x
  exact ⟨fun b o q => k b o (x1 b o q), x2, Heap.FunFrames.of_keeps (fun b o q _ => ⟨o, k b o q, rfl⟩) x3, oe, vs, T, oT, ts, k _ _ y1, y2, y3, y4, y5, y6, k _ _ y7, y8, y9⟩

/-- what 'except (c1, c2, c3) as n' wishes of an exception of the body: it is one of these; from then on it is tracked -/
def wKeep (K : PySem.W.Frag) (cs : List Value) (i : Nat) (ts : TS) (D : Ends) : WX := fun cls d σ H =>
  PySem.W.exmAny K cls cs = some true ∧ ∀ a, H a = none → ts { nx := fun σ' H' => D.nx (σ'.set i none) H', rt := D.rt, bk := fun σ' H' => D.bk (σ'.set i none) H', ct := fun σ' H' => D.ct (σ'.set i none) H' } (σ.set i (some (.ref a))) (upd H a (Xo a cls d))
section
variable {X : Cx} {x1 x2 x3 n : Str} {c1 c2 c3 : Addr} {i : Nat} {body suite : List Stmt} {b₀ : Stmt} {k : Nat} {q1 q2 q3 q4 pos pos' : Pos} {tb : WX → TS} {ts : TS}
theorem ps_keep (hs : X.stack = X.env :: X.outer) (hf : X.env.frame = some X.env.locals) (hex : X.ex = []) (hN : X.N.Nodup) (hi : X.N[i]? = some n) (hln : X.env.kindOf n = some .local)
    (g1 : Gl X x1) (m1 : X.mg x1 = some (.ref c1)) (g2 : Gl X x2) (m2 : X.mg x2 = some (.ref c2)) (g3 : Gl X x3) (m3 : X.mg x3 = some (.ref c3))
    (hb : ∀ (W : WX) (pn : List (Addr × Obj)) (xe : Value → Shared → Prop), Takes (X.tr pn xe) W → PSs (X.tr pn xe) body (tb W))
    (hsu : ∀ (a : Addr) (pn : List (Addr × Obj)), PSs (X.suite a pn) (b₀ :: suite) ts)
    (d1 : (x1 == ("__debug__" : Str)) = false := by decide) (d2 : (x2 == ("__debug__" : Str)) = false := by decide) (d3 : (x3 == ("__debug__" : Str)) = false := by decide)
    (st1 : starEach [.Name x1 q1, .Name x2 q2, .Name x3 q3] X.env = (false, eval (.Name x1 q1) X.env) :: (false, eval (.Name x2 q2) X.env) :: (false, eval (.Name x3 q3) X.env) :: starEach [] X.env := by rfl) :
    PS X (.Try body [.ExceptHandler (some (.Tuple [.Name x1 q1, .Name x2 q2, .Name x3 q3] k q4)) (some n) (b₀ :: suite) pos'] [] [] pos) (fun D σ H => tb (wKeep X.K [.ref c1, .ref c2, .ref c3] i ts D) D σ H) := by
  refine ⟨fun pins s σ H D I h => ?_⟩
  have ok := I.ok
  have hfr : X.A.frames = some (X.env :: X.outer) := by rw [ok.frames, hs]
  refine wpAny_Try_except (wpAny_mono ((hb (wKeep X.K [.ref c1, .ref c2, .ref c3] i ts D) (X.pn ++ pins) (fun e s₁ => wpAny (model X.prog X.w) X.A (noteFrame e X.env) (fun _ s₂ => wpAny (model X.prog X.w) X.A (setFlight e none) (fun _ s₃ =>
    wpAny (model X.prog X.w) X.A (handleBy e X.env [.ExceptHandler (some (.Tuple [.Name x1 q1, .Name x2 q2, .Name x3 q3] k q4)) (some n) (b₀ :: suite) pos']) (SP X pins D) X.xe s₃) X.xe s₂) X.xe s₁) (fun u s' xx => ?_)).run [] s σ H D (I.toTry _) h) (fun f s1 hsp => ?_) (fun e s1 he => he))
  · obtain ⟨a, B, sI, pins', σ', H', cls, d, rfl, J', nb, up, sky, na, os, ag, hx, go⟩ := xx
    have J : Inv X pins σ' H' sI := J'.ofTry ok
    have sky' : Sky B (X.env :: X.outer) a (Zc cls d) X.env.locals s'.heap := by rw [← hs]; exact sky
    refine Sky.land Zc.steady hfr hf sky' fun h3 fl3 up3 => ?_
    have hBa : B.get? a = none := fl3.2.1
    have nfr : a ∉ frs X.stack := fun hm => by
      obtain ⟨oe, vs, e, _, dd⟩ := fl3.there
      rw [hs] at hm
      obtain ⟨_, o', e', hnf⟩ := fl3.2.2.1.mem hm
      rw [e] at e'
      cases e'
      exact hnf _ dd
    have nI : sI.heap.get? a = none := by
      cases e : sI.heap.get? a with
      | none => rfl
      | some o =>
        rw [nb a o e nfr] at hBa
        cases hBa
    have n0 : X.s_0.heap.get? a = none := by
      cases e : X.s_0.heap.get? a with
      | none => rfl
      | some o =>
        obtain ⟨o', e'⟩ := J.base.there a o e (by rw [hex]; exact fun z => nomatch z)
        rw [nI] at e'
        cases e'
    have np : ∀ p ∈ X.pn ++ pins, p.1 ≠ a := fun p hp z => by
      obtain ⟨e, _⟩ := J.pin p hp
      rw [z, nI] at e
      cases e
    have J3 : Inv X pins σ' H' { s' with heap := h3 } := J.landed nb fl3.1 (up.trans up3) os ag
    have S3 := Inv.toSuite J3 a
    refine wpAny_handleBy_cons (codeAny_handlers_test (wpAny_Tuple_spliced ?_)) (by intro q; cases q)
    rw [st1]
    refine Calls.spliced_cons (ld_glob (X := X.suite a (X.pn ++ pins)) S3 g1 m1 (Calls.spliced_cons (ld_glob (X := X.suite a (X.pn ++ pins)) S3 g2 m2 (Calls.spliced_cons (ld_glob (X := X.suite a (X.pn ++ pins)) S3 g3 m3 (Calls.spliced_nil ⟨by show 3 ≤ sizeLine; decide, ?_⟩) d3)) d2)) d1)
    have kp : ∀ b o, h3.get? b = some o → (h3.push { cls := .type "tuple", data := .seq [Value.ref c1, Value.ref c2, Value.ref c3].toArray }).get? b = some o := fun b o e => Heap.get?_push_of_some _ e
    obtain ⟨oe3, vs3, he3, hz3, hd3⟩ := fl3.there
    have LT : PySem.W.Looks (model X.prog X.w) (h3.push { cls := .type "tuple", data := .seq [Value.ref c1, Value.ref c2, Value.ref c3].toArray }) (typeOf (.ref a)) cls := fun A Q E s r q => wpAny_typeOf_ref (r _ _ (kp _ _ he3)) (by rw [hz3.1]; exact q)
    refine (PySem.W.exm_tup3 (J3.kIn.keeps kp) LT (Heap.get?_push_size _ rfl) hx).here ?_
    show codeAny _ _ _ _ _
    refine codeAny_handlers_suite_as ?_
    refine HandSPX.lands_againZ (flying_more fl3 kp) fun h4 fl4 up4 => ?_
    have upA : sI.heap.UpToSlots h4 := ((up.trans up3).trans (Heap.UpToSlots.of_keeps kp)).trans up4
    have J4 : Inv X pins σ' H' { s' with heap := h4 } := J.landed nb fl4.1 upA os ag
    obtain ⟨oe4, vs4, he4, hz4, hd4⟩ := fl4.there
    have S4 := Inv.toSuite (Inv.track J4 he4 hz4 hd4 na n0 np) a
    refine store_ok (X := X.suite a (X.pn ++ pins)) (v := .ref a) S4 hN hi (.inl hln) rfl (fun s5 S5 => ?_) (.inr hln)
    refine wpAny_mono ((hsu a (X.pn ++ pins)).run [] s5 _ _ _ S5 (go a na)) (fun f s6 hsp => ?_) (fun _ _ z => False.elim z)
    have fin : ∀ {σ6 : L2.St} {H6 : Hp} {Q : Shared → Prop}, Inv (X.suite a (X.pn ++ pins)) [] σ6 H6 s6 → (∀ s7, Inv X pins (σ6.set i none) H6 s7 → Q s7) →
        wpAny (model X.prog X.w) X.A (do bindName X.env n .none; unbindBehindTheSuite X.env n pos') (fun _ s7 => Q s7) X.xe s6 := fun {σ6 H6 Q} S6 hq => gone_ok (Inv.offSuite S6 ok) hN hi hln hq
    cases f with
    | next =>
      obtain ⟨σ6, H6, S6, q6⟩ := hsp
      exact fin S6 fun s7 J7 => ⟨_, _, J7, q6⟩
    | brk =>
      obtain ⟨σ6, H6, S6, q6⟩ := hsp
      exact fin S6 fun s7 J7 => ⟨_, _, J7, q6⟩
    | cont =>
      obtain ⟨σ6, H6, S6, q6⟩ := hsp
      exact fin S6 fun s7 J7 => ⟨_, _, J7, q6⟩
    | ret u =>
      obtain ⟨v6, σ6, H6, S6, r6, q6⟩ := hsp
      exact fin S6 fun s7 J7 => ⟨_, _, _, J7, r6, q6⟩
  · cases f with
    | next =>
      obtain ⟨σ', H', J', q⟩ := hsp
      exact wpAny_execs_nil ⟨σ', H', J'.ofTry ok, q⟩
    | brk =>
      obtain ⟨σ', H', J', q⟩ := hsp
      exact ⟨σ', H', J'.ofTry ok, q⟩
    | cont =>
      obtain ⟨σ', H', J', q⟩ := hsp
      exact ⟨σ', H', J'.ofTry ok, q⟩
    | ret u =>
      obtain ⟨v, σ', H', J', r, q⟩ := hsp
      exact ⟨v, σ', H', J'.ofTry ok, r, q⟩
end
end XK

/-! An own exception class with one field: raised, its field read, asked by isinstance. -/
namespace XK
open PySem PySem.Spec PyProof.Rows L2

/-- what the top has written of the class x (at C, its __init__ at fI, its field f) -/
structure Ec (K : PySem.W.Frag) (mg : Str → Option Value) (x : Str) (C fI : Addr) (f : Str) : Prop where
  gC : mg x = some (.ref C)
  ox : OexC K C
  iC : PySem.W.findIn K (.ref C) "__init__" = some (some (.ref fI))
  tI : PySem.W.typeIn K (.ref fI) = some (.type "function")
  nf : PySem.W.findIn K (.ref C) f = some none
  xf : XfC K C
  ec : ExcC K C

def spIni (C : Addr) (f : Str) : Sp := fun vs H Q _ => ∃ (a : Addr) (v : V), vs = [.ref a, v] ∧ H a = some (exo a C none) ∧ ∀ dx, H dx = none → dx ≠ a → Q .non (upd (upd H dx (exd dx [(f, v)])) a (exo a C (some dx)))

section
variable {P : Program} {w : World} {K : PySem.W.Frag} {mg : Str → Option Value} {base : Heap} {x f : Str} {C fI : Addr} {fd : FuncData} {st : Stmt} {q : Str}
/-- def __init__(self, f): self.f = f -/
theorem ini_ok (T : Ec K mg x C fI f) (F : Fun K "__init__" q st fI fd) (S : FnScope ["self", f] ["self", f] (defScope st)) {p1 p2 p3 p4 : Pos} (hb : defBody st = [.Assign [.Attribute (.Name "self" p1) f p2] (.Name f p3) p4])
    (v0 : Vis (defScope st) "self") (v1 : Vis (defScope st) f) (hd : (f == ("__debug__" : Str)) = false) (hcd : (f == ("__classdict__" : Str)) = false) : FnOk P w K mg base (L2.CX P w) 1 fI fd ["self", f] (spIni C f) := by
  refine F.okX S (fun vs H Q E h => ?_) (fun cdv A outer s H vs Q E hr h => ?_)
  · obtain ⟨a, v, rfl, _⟩ := h
    rfl
  · obtain ⟨a, v, rfl, ha, go⟩ := h
    rw [hb]
    refine ⟨_, pss_one (ps_ost (pe_var (i := 0) rfl v0 (by decide) (by decide)) (pe_var (i := 1) rfl v1 hd hcd)), ?_⟩
    exact ⟨v, rfl, .ref a, rfl, a, C, rfl, T.ox, T.nf, Or.inl ⟨ha, fun dx hn hne => go dx hn hne⟩⟩
end

section
variable {X : Cx} {x f : Str} {C fI : Addr} {fd : FuncData} {W : WX} {e : Expr} {te : TE} {p pos pos2 : Pos}
theorem ini_end {H : Hp} {a d : Addr} {v : V} (ha : H a = none) (hd : d ≠ a) : upd (del (upd (upd (upd H a (exo a C none)) d (exd d [(f, v)])) a (exo a C (some d))) a) d (.xd [(f, v)]) = upd H d (.xd [(f, v)]) := by
  funext b
  by_cases h1 : b = d
  · subst h1
    rw [upd_same, upd_same]
  · rw [upd_ne h1, upd_ne h1]
    by_cases h2 : b = a
    · subst h2
      rw [del_same, ha]
    · rw [del_ne h2, upd_ne h2, upd_ne h1, upd_ne h2]
/-- a reading that may be weakened -/
def up1 (te : TE) : TE := fun σ H Q => ∃ Q0 : VK, te σ H Q0 ∧ ∀ v H', Q0 v H' → Q v H'
theorem pe_up (he : PE X e te) : PE X e (up1 te) := ⟨fun pins s σ H Q I ⟨Q0, h, k⟩ => thn (he.run pins s σ H Q0 I h) fun u s1 ⟨v, H1, I1, r, q⟩ => ⟨v, H1, I1, r, k v H1 q⟩⟩
/-- raise x(e) -/
def tRz (C : Addr) (f : Str) (W : WX) (te : TE) : TS := fun _ σ H => te σ H fun v H1 => ∀ d, H1 d = none → W (.ref C) (some d) σ (upd H1 d (.xd [(f, v)]))
theorem ps_rz (T : Ec X.K X.mg x C fI f) (F : FnOk X.prog X.w X.K X.mg X.base (L2.CX X.prog X.w) 1 fI fd ["self", f] (spIni C f)) (hb : Binds X.K fd ["self", f] []) (hr : Room 2 X.A) (hc : X.calm = true) (tk : Takes X W) (he : PE X e te) (hg : Gl X x)
    (hdb : (x == ("__debug__" : Str)) = false := by decide) (hst : starEach [e] X.env = (false, eval e X.env) :: starEach [] X.env := by rfl) (hpl : (backTo pos (starEach [] X.env)).any (·.1) = false := by rfl) :
    PS X (.Raise (some (.Call (.Name x p) [e] [] pos)) none pos2) (tRz C f W te) := by
  have R := ps_raise (pos := pos2) hc tk (pmk_oex (p := p) (pos := pos) T.ox T.iC T.tI F hr hb .nil (fun _ _ _ _ _ _ _ h => by obtain ⟨_, _, _, _, _, _, _, _, _, _, _, _, z⟩ := h; exact z.elim) hg T.gC (pa_cons (pe_up he) pa_nil hst) hdb hst hpl)
  refine ⟨fun pins s σ H D I h => R.run pins s σ H D I ⟨_, h, fun v H1 k => ⟨by show 1 ≤ 1000; decide, fun a ha => ⟨a, v, rfl, upd_same, fun dx hn hne => ⟨rfl, dx, [(f, v)], upd_same, by rw [upd_ne hne, upd_same], by rw [upd_ne hne] at hn; exact hn, ?_⟩⟩⟩⟩⟩
  rw [ini_end ha hne]
  rw [upd_ne hne] at hn
  exact k dx hn

/-- e.n, e a kept exception -/
def tXo (K : PySem.W.Frag) (n : Str) (te : TE) : TE := fun σ H Q => te σ H fun x H1 => ∃ (a C d : Addr) (fs : List (Str × V)) (v : V), x = .ref a ∧ H1 a = some (Xo a (.ref C) (some d)) ∧ H1 d = some (.xd fs) ∧ XfC K C ∧ PySem.W.findIn K (.ref C) n = some none ∧ fs.lookup n = some v ∧ Q v H1
theorem xo_inst {pins : List (Addr × Obj)} {σ : L2.St} {H : Hp} {s : Shared} {a C d : Addr} {fs : List (Str × V)} (I : Inv X pins σ H s) (ea : H a = some (Xo a (.ref C) (some d))) (ed : H d = some (.xd fs)) :
    ∃ (oe od : Obj) (mA : Str → Option Value), PySem.W.InstAt s.heap a oe C (some od) ∧ (∀ n, PySem.W.lookIn n od = some (mA n)) ∧ ∀ n, RelO (fs.lookup n) (mA n) := by
  obtain ⟨oe, vs, he, hz, hd⟩ := xo_at I.hok ea
  obtain ⟨mA, hns, hr⟩ := (show ObjOk X.prog X.w H s.heap d (.xd fs) from I.hok d _ ed)
  obtain ⟨od, ho, hl⟩ := lookIn_ns hns
  exact ⟨oe, od, mA, ⟨he, hz.1, by unfold PySem.W.notCls; rw [hd] <;> rfl, by rw [hz.2]; exact ho⟩, hl, hr⟩
theorem pe_xo {n : Str} (he : PE X e te) (hb : attributeBase e n X.env (eval e X.env) = eval e X.env := by rfl) : PE X (.Attribute e n pos) (tXo X.K n te) := by
  refine ⟨fun pins s σ H Q I h => attr_of hb (thn (he.run pins s σ H _ I h) fun u s1 hh => ?_)⟩
  obtain ⟨x, H1, I1, rx, a, C, d, fs, v, rfl, ea, ed, T, hno, l, q⟩ := hh
  obtain rfl : u = Value.ref a := rx
  obtain ⟨oe, od, mA, J, hl, hr⟩ := xo_inst I1 ea ed
  obtain ⟨u, hu, ru⟩ := RelO.some_of (v := v) (o := mA n) (by rw [← l]; exact hr n)
  exact HandSPX.exc_get I1.kIn J T.ga T.gg T.exC (PySem.W.findObj_own T.hdC hno rfl (by rw [hl, hu])) (handed_of ru) ⟨v, H1, I1.tok _, ru, q⟩

/-- isinstance(e, c), e a kept exception -/
def rIsX (K : PySem.W.Frag) : List V → Hp → VK → Prop := fun xs H Q => ∃ (a C d : Addr) (fs : List (Str × V)) (c : V) (cv : Value) (b : Bool), xs = [.ref a, c] ∧ ClsV c cv ∧ H a = some (Xo a (.ref C) (some d)) ∧ H d = some (.xd fs) ∧ ExcC K C ∧ PySem.W.kitOne K (.ref C) cv = some b ∧ Q (.bl b) H
theorem kit_x {C a : Addr} {oe : Obj} {od : Option Obj} (T : ExcC X.K C) : PySem.W.KitX X.K (.ref a) (.ref C) (fun h => PySem.W.InstAt h a oe C od) :=
  PySem.W.kitx_exc (by
    obtain ⟨cd, hc, _⟩ := PySem.W.any_some T.hd
    rw [hc] <;> rfl) T.hg T.hk T.hs T.ha T.hn T.ht T.hm
theorem call_isx : CallR X (.builtin "isinstance") (rIsX X.K) := by
  intro pins s σ H xs us Q I r h
  obtain ⟨a, C, d, fs, c, cv, b, rfl, k, ea, ed, T, e, q⟩ := h
  obtain ⟨u1, u2, rfl, r1, r2⟩ := vals2 r
  have e2 := k.eq r2
  subst e2
  cases (show u1 = Value.ref a from r1)
  obtain ⟨oe, od, mA, J, _, _⟩ := xo_inst I ea ed
  exact PySem.W.kia_one (kit_x T) I.kIn J e (fun z => nomatch z) fun tk => ⟨.bl b, H, I.tok tk, rfl, q⟩
end
end XK

/-! enumerate over a tuple, over a text. -/
namespace PySem
set_option maxHeartbeats 4000000 in
theorem xk_enum_new {v : Value} {o : Obj} {G : Heap → Prop} (B : Begins v o G) :
    Meets (Builtin.«enumerate.__new__» ⟨[.type "enumerate", v], []⟩) (fun _ R s => G s.heap ∧
      R (.ok (.ret (.ref (s.heap.push o).objs.size))) { s with heap := (s.heap.push o).push { cls := .type "enumerate", data := .fields #[.none, .bool false, .ref s.heap.objs.size, rawInt 0, .none, .none] } }) :=
  .of_wp fun prog w A R s h => by
    obtain ⟨hp, g, d, tk, os⟩ := s
    obtain ⟨h1, h⟩ := h
    have sb := sub_enumerate
    have it1 : ∀ {A' : Around} {E : Value → Shared → Prop} {Q : Value → Shared → Prop}, Q (.ref hp.objs.size) ⟨hp.push o, g, d, tk, os⟩ → wpAny (model prog w) A' (pyIter v) Q E ⟨hp, g, d, tk, os⟩ :=
      fun q => B.iter prog w _ _ ⟨hp, g, d, tk, os⟩ _ h1 q
    wp_walk using it1
    refine wpAny_stack_any fun st => wpAny_pure ?_
    split
    · rename_i c _ _ _ _ _
      cases (c == Value.type "enumerate")
      · wp_walk using it1
        exact ⟨_, rfl, h⟩
      · wp_walk using it1
        exact ⟨_, rfl, h⟩
    · wp_walk using it1
      exact ⟨_, rfl, h⟩
theorem xk_enum_call {prog : Program} {w : World} {A : Around} {E : Value → Shared → Prop} {s : Shared} {v : Value} {o : Obj} {G : Heap → Prop} {Q : Value → Shared → Prop} (B : Begins v o G) (h1 : G s.heap)
    (h : ∀ h', IsEnum h' (s.heap.objs.size + 1) s.heap.objs.size 0 .none → h'.get? s.heap.objs.size = some o → (∀ b o, s.heap.get? b = some o → h'.get? b = some o) → Q (.ref (s.heap.objs.size + 1)) { s with heap := h' }) :
    wpAny (model prog w) A (call (.type "enumerate") [v]) Q E s := by
  refine callType_new F.called_enumerate (by decide) (F.typeCall_enumerate_1 _) (F.newCall_enumerate_1 _) (fun obj => F.args_object_init_2 obj _) F.entry_enumerate_new (xk_enum_new B) ⟨h1, ?_⟩
  have sz : (s.heap.push o).objs.size = s.heap.objs.size + 1 := Heap.size_push ..
  show _ ∧ _
  rw [sz]
  have en : IsEnum ((s.heap.push o).push { cls := .type "enumerate", data := .fields #[.none, .bool false, .ref s.heap.objs.size, rawInt 0, .none, .none] }) (s.heap.objs.size + 1) s.heap.objs.size 0 .none := by
    have z := Heap.get?_push_size (s.heap.push o) (o := { cls := .type "enumerate", data := .fields #[.none, .bool false, .ref s.heap.objs.size, rawInt 0, .none, .none] }) rfl
    rw [sz] at z
    exact z
  exact ⟨⟨_, en, rfl⟩, h _ en (Heap.get?_push_of_some _ (Heap.get?_push_size _ B.free)) fun b u x => Heap.get?_push_of_some _ (Heap.get?_push_of_some _ x)⟩
end PySem
namespace XK
open PySem PySem.Spec PyProof.Rows L2

/-- the tuple at a, its items with their numbers, in new pairs -/
def Iet (K : PySem.W.Frag) (a : Addr) (xs : List V) : It :=
  ⟨fun i H => SqT K H a xs ∧ i < xs.length, fun i H v H' => ∃ T x, v = .ref T ∧ H T = none ∧ H' = upd H T (.tup [.int (i : Nat), x]) ∧ xs[i]? = some x, fun i H => SqT K H a xs ∧ i = xs.length⟩
/-- a text's signs with their numbers -/
def Ies (z : Str) : It :=
  ⟨fun i _ => i < z.cps.size, fun i H v H' => ∃ T c, v = .ref T ∧ H T = none ∧ H' = upd H T (.tup [.int (i : Nat), .str ⟨#[c]⟩]) ∧ z.cps[i]? = some c, fun i _ => i = z.cps.size⟩
section
variable {P : Program} {w : World} {K : PySem.W.Frag} {elts : List Expr} {kk : Nat} {tpos : Pos}
/-- one pair handed out -/
theorem enum_step {X : Cx} {pins : List (Addr × Obj)} {σ : L2.St} {H : Hp} {s : Shared} {E : Value → Shared → Prop} {e it : Addr} {fp : List Addr} {n i : Nat} {Pr : Nat → Value → Prop} {St : Nat → Heap → Prop} {J : It} {tn : Nat → Heap → Prop} {old : Value}
    (I : Inv X pins σ H s) (hf : ∀ b ∈ [e, it], FpOk X pins H b) (D : Draws X.prog X.w X.A.in1 it fp n Pr St) (he : IsEnum s.heap e it ((i : Nat) : Int) old) (hst : St i s.heap) (hlt : i < n) (hne : e ≠ it) (hef : e ∉ fp)
    (val : ∀ u, Pr i u → ∃ x, RelV x u ∧ ∀ T, H T = none → J.yld i H (.ref T) (upd H T (.tup [.int (i : Nat), x])))
    (nxt : ∀ h' u, IsEnum h' e it ((i + 1 : Nat) : Int) u → St (i + 1) h' → tn (i + 1) h') :
    wpAny (model X.prog X.w) X.A (pyNext (.ref e)) (fun r s1 => ∃ u, r = some u ∧
      wpAny (model X.prog X.w) X.A (letOwnedTupleGo (.Tuple elts kk tpos) (.ref e) u) (fun _ s2 => ∃ x H', Inv X pins σ H' s2 ∧ RelV x u ∧ J.yld i H x H' ∧ tn (i + 1) s2.heap ∧ ∀ b ∈ [e, it], H' b = none) E s1) E s := by
  have hel : e < s.heap.objs.size := Heap.lt_size he
  have hil : it < s.heap.objs.size := by obtain ⟨o, q⟩ := D.live _ _ hst; exact Heap.lt_size q
  refine wpAny_pyNext_enum_itemD D he hst hlt hne hef fun u h' tk hu ho hst' hT hsz hk => ?_
  obtain ⟨x, ru, hy⟩ := val u hu
  refine ⟨_, rfl, wpAny_letOwnedTupleGo_enum (s := { s with heap := h', toks := tk + 1 }) ho fun h2 he2 sb => ?_⟩
  have hT2 : h2.get? s.heap.objs.size = some { cls := .type "tuple", data := .seq #[.int i tk, u] } := (sb.2 _ (Nat.ne_of_gt hel)).trans hT
  have new : ObjOk X.prog X.w (upd H s.heap.objs.size (.tup [.int (i : Nat), x])) h2 s.heap.objs.size (.tup [.int (i : Nat), x]) :=
    ⟨by show 2 ≤ sizeLine; decide, [.int i tk, u], .cons ⟨_, rfl⟩ (.cons ru .nil), ⟨_, hT2, rfl, _, rfl⟩⟩
  have I1 : Inv X pins σ (upd H s.heap.objs.size (.tup [.int (i : Nat), x])) { s with heap := h2, toks := tk + 1 } :=
    I.turnedNew (ch := [e, it]) (fun b ob hb q => (sb.2 b (fun z => hb (by simp [z]))).trans (hk b ob (fun z => hb (by simp [z])) (fun z => hb (by simp [z])) q)) hf (Nat.le_refl _) new
  have fr := I.hok.fresh (Nat.le_refl s.heap.objs.size)
  refine ⟨.ref s.heap.objs.size, _, I1, rfl, hy _ fr, nxt _ u ?_ (D.frame _ _ _ hst' fun b hb o q => (sb.2 b fun z => hef (z ▸ hb)).trans q), fun b hb => ?_⟩
  · have e1 : ((i + 1 : Nat) : Int) = (i : Int) + 1 := by omega
    rw [e1]
    exact he2
  · have hb' : b < s.heap.objs.size := by
      have e' : b = e ∨ b = it := by simpa using hb
      rcases e' with z | z
      · rw [z]; exact hel
      · rw [z]; exact hil
    rw [upd_ne (Nat.ne_of_lt hb')]
    exact (hf b hb).1
theorem turn_et (a e it : Addr) (xs : List V) :
    Turn P w K (.Tuple elts kk tpos) (Iet K a xs) [e, it] e (fun i h => (∃ old, IsEnum h e it ((i : Nat) : Int) old) ∧ h.IsTupleIter it a i ∧ e ≠ it ∧ e ≠ a ∧ a ≠ it) where
  mem := by simp
  obj := fun i h st b hb => by
    obtain ⟨⟨old, he⟩, ⟨o, ho, hc, hd⟩, _⟩ := st
    have e' : b = e ∨ b = it := by simpa using hb
    rcases e' with z | z
    · rw [z]; exact ⟨_, he, fun v q => nomatch q⟩
    · rw [z]; exact ⟨o, ho, fun v q => by rw [hd] at q; cases q⟩
  keep := fun i h h' st k => let ⟨⟨old, he⟩, hi, hne⟩ := st; ⟨⟨old, k e (by simp) _ he⟩, hi.at fun o q => k it (by simp) o q, hne⟩
  item := by
    intro X hP hw hK hc i pins s σ H E I hf st hg
    subst hP hw hK
    obtain ⟨⟨old, he⟩, hit, hne, hea, hai⟩ := st
    obtain ⟨hq, hlt⟩ := hg
    obtain ⟨its, rv, p, hz⟩ := I.tuple hq
    have hl := rv.length
    have D := Draws.tuple (prog := X.prog) (w := X.w) (A := X.A.in1) (I.ok.hd hc) it a hai its.toArray
    refine enum_step (J := Iet X.K a xs) (tn := fun i h => (∃ old, IsEnum h e it ((i : Nat) : Int) old) ∧ h.IsTupleIter it a i ∧ e ≠ it ∧ e ≠ a ∧ a ≠ it) (i := i) I hf D he ⟨hit, p⟩ (by simp; omega) hne (by simp [hne, hea]) (fun u hu => ?_) (fun h' u q1 q2 => ⟨⟨u, q1⟩, q2.1, hne, hea, hai⟩)
    have hx : xs[i]? = some xs[i] := by simp [hlt]
    obtain ⟨u', hu', ru⟩ := rv.get hx
    have hu2 : its[i]? = some u := by simpa using hu
    rw [hu'] at hu2
    cases hu2
    exact ⟨xs[i], ru, fun T hT => ⟨T, xs[i], rfl, hT, rfl, hx⟩⟩
  done := by
    intro X hP hw hK hc i pins s σ H E I hf st hg
    subst hP hw hK
    obtain ⟨⟨old, he⟩, hit, hne, hea, hai⟩ := st
    obtain ⟨hq, hle⟩ := hg
    obtain ⟨its, rv, p, hz⟩ := I.tuple hq
    obtain ⟨f0, f1, f2, f3, f4, f5⟩ := hf it (by simp)
    have hl := rv.length
    have D := Draws.tuple (prog := X.prog) (w := X.w) (A := X.A.in1) (I.ok.hd hc) it a hai its.toArray
    have hn : i = its.toArray.size := by simp; omega
    exact wpAny_pyNext_enum_endD D he (hn ▸ ⟨hit, p⟩) fun h' hx => ⟨rfl, I.turned (t' := s.toks) (fun b ob hb q => hx b ob hb q) f0 f1 f3 f4 f5⟩
  self := fun A i s Q E st h => let ⟨⟨_, he⟩, _⟩ := st; wpAny_pyIter_enum he h
theorem turn_es (e it : Addr) (z : Str) (t : Tok) :
    Turn P w K (.Tuple elts kk tpos) (Ies z) [e, it] e (fun i h => (∃ old, IsEnum h e it ((i : Nat) : Int) old) ∧ h.IsStrIter it (strIterType z) z t i ∧ e ≠ it) where
  mem := by simp
  obj := fun i h st b hb => by
    obtain ⟨⟨old, he⟩, ⟨o, ho, hc, hd⟩, _⟩ := st
    have e' : b = e ∨ b = it := by simpa using hb
    rcases e' with z | z
    · rw [z]; exact ⟨_, he, fun v q => nomatch q⟩
    · rw [z]; exact ⟨o, ho, fun v q => by rw [hd] at q; cases q⟩
  keep := fun i h h' st k => let ⟨⟨old, he⟩, ⟨o, ho, r⟩, hne⟩ := st; ⟨⟨old, k e (by simp) _ he⟩, ⟨o, k it (by simp) o ho, r⟩, hne⟩
  item := by
    intro X hP hw hK hc i pins s σ H E I hf st hg
    subst hP hw hK
    obtain ⟨⟨old, he⟩, hit, hne⟩ := st
    have D := Draws.text (prog := X.prog) (w := X.w) (A := X.A.in1) (I.ok.hd hc) it z t
    refine enum_step (J := Ies z) (tn := fun i h => (∃ old, IsEnum h e it ((i : Nat) : Int) old) ∧ h.IsStrIter it (strIterType z) z t i ∧ e ≠ it) (i := i) I hf D he hit hg hne (by simp [hne]) (fun u hu => ?_) (fun h' u q1 q2 => ⟨⟨u, q1⟩, q2, hne⟩)
    obtain ⟨c, u', hc', rfl⟩ := hu
    exact ⟨.str ⟨#[c]⟩, ⟨_, rfl⟩, fun T hT => ⟨T, c, rfl, hT, rfl, hc'⟩⟩
  done := by
    intro X hP hw hK hc i pins s σ H E I hf st hg
    subst hP hw hK
    obtain ⟨⟨old, he⟩, hit, hne⟩ := st
    obtain ⟨f0, f1, f2, f3, f4, f5⟩ := hf it (by simp)
    have D := Draws.text (prog := X.prog) (w := X.w) (A := X.A.in1) (I.ok.hd hc) it z t
    have hn : i = z.cps.size := hg
    subst hn
    exact wpAny_pyNext_enum_endD D he hit fun h' hx => ⟨rfl, I.turned (t' := s.toks) (fun b ob hb q => hx b ob hb q) f0 f1 f3 f4 f5⟩
  self := fun A i s Q E st h => let ⟨⟨_, he⟩, _⟩ := st; wpAny_pyIter_enum he h
end
section
variable {X : Cx} {e : Expr} {ta : TA} {p pos tpos : Pos} {elts : List Expr} {kk : Nat}
def iEt (K : PySem.W.Frag) (ta : TA) : TI := fun σ H R => ta σ H fun vs H1 => ∃ a xs, vs = [.ref a] ∧ SqT K H1 a xs ∧ R (Iet K a xs) H1
def iEs (ta : TA) : TI := fun σ H R => ta σ H fun vs H1 => ∃ z, vs = [.str z] ∧ R (Ies z) H1
/-- .. in enumerate(t), t a tuple -/
theorem pi_et (hg : Gl X "enumerate") (hm : X.mg "enumerate" = none) (ha : PA X [e] ta) (hs : starEach [e] X.env = [(false, eval e X.env)] := by rfl) : PI X (.Tuple elts kk tpos) (.Call (.Name "enumerate" p) [e] [] pos) (iEt X.K ta) := by
  refine ⟨fun pins s σ H R I h => Call_ (ld_blt I hg hm boot_enumerate (PyProof.Rows.callWith_type1 (thn (ha.run pos pins s σ H _ I h) fun us s1 ⟨vs, H1, I1, r1, q1⟩ => ?_) hs rfl))⟩
  obtain ⟨a, xs, rfl, hq, q⟩ := q1
  cases r1 with
  | cons r rr =>
    cases rr
    cases r
    obtain ⟨its, rv, p', hz⟩ := I1.tuple hq
    refine xk_enum_call (begins_tuple a its.toArray) p' fun h' he hit hk => wpAny_pyIter_enum he ?_
    have I2 : Inv X pins σ H1 { s1 with heap := h' } := I1.kept (t' := s1.toks) hk
    have hal : a < s1.heap.objs.size := p'.lt
    refine ⟨s1.heap.objs.size + 1, [s1.heap.objs.size + 1, s1.heap.objs.size], _, _, H1, rfl, I2, turn_et a (s1.heap.objs.size + 1) s1.heap.objs.size xs, ⟨⟨.none, he⟩, ⟨_, hit, rfl, rfl⟩, Nat.succ_ne_self _, Nat.ne_of_gt (Nat.lt_succ_of_lt hal), Nat.ne_of_lt hal⟩, fun b hb => ?_, q⟩
    have e' : b = s1.heap.objs.size + 1 ∨ b = s1.heap.objs.size := by simpa using hb
    have hle : s1.heap.objs.size ≤ b := by
      rcases e' with y | y
      · rw [y]; exact Nat.le_succ _
      · rw [y]; exact Nat.le_refl _
    exact I1.fpOk hle (I1.hok.fresh hle)
/-- .. in enumerate(z), z a text -/
theorem pi_es (hg : Gl X "enumerate") (hm : X.mg "enumerate" = none) (ha : PA X [e] ta) (hs : starEach [e] X.env = [(false, eval e X.env)] := by rfl) : PI X (.Tuple elts kk tpos) (.Call (.Name "enumerate" p) [e] [] pos) (iEs ta) := by
  refine ⟨fun pins s σ H R I h => Call_ (ld_blt I hg hm boot_enumerate (PyProof.Rows.callWith_type1 (thn (ha.run pos pins s σ H _ I h) fun us s1 ⟨vs, H1, I1, r1, q1⟩ => ?_) hs rfl))⟩
  obtain ⟨z, rfl, q⟩ := q1
  cases r1 with
  | cons r rr =>
    cases rr
    obtain ⟨t, rfl⟩ := r
    refine xk_enum_call (begins_text z t) trivial fun h' he hit hk => wpAny_pyIter_enum he ?_
    have I2 : Inv X pins σ H1 { s1 with heap := h' } := I1.kept (t' := s1.toks) hk
    refine ⟨s1.heap.objs.size + 1, [s1.heap.objs.size + 1, s1.heap.objs.size], _, _, H1, rfl, I2, turn_es (s1.heap.objs.size + 1) s1.heap.objs.size z t, ⟨⟨.none, he⟩, ⟨_, hit, rfl, rfl⟩, Nat.succ_ne_self _⟩, fun b hb => ?_, q⟩
    have e' : b = s1.heap.objs.size + 1 ∨ b = s1.heap.objs.size := by simpa using hb
    have hle : s1.heap.objs.size ≤ b := by
      rcases e' with y | y
      · rw [y]; exact Nat.le_succ _
      · rw [y]; exact Nat.le_refl _
    exact I1.fpOk hle (I1.hok.fresh hle)
end
/-- a loop over such an iterator: n turns -/
theorem for_ix {J : It} {n : Nat} {g : TG} {tb : TS} {D : Ends} {σ : L2.St} {H : Hp} (Pv : Nat → L2.St → Hp → Prop) (h0 : Pv 0 σ H) (hgo : ∀ i σ H, i < n → Pv i σ H → J.go i H) (hst : ∀ σ H, Pv n σ H → J.stop n H)
    (hs : ∀ i σ H x H', i < n → Pv i σ H → J.yld i H x H' → g x σ H' fun σ2 H2 => tb { D with nx := Pv (i + 1), ct := Pv (i + 1), bk := D.nx } σ2 H2) (hd : ∀ σ H, Pv n σ H → D.nx σ H) :
    ∃ W : Nat → Nat → L2.St → Hp → Prop, (∃ m, W 0 m σ H) ∧ ∀ i m σ H, W i m σ H →
      (J.stop i H ∧ D.nx σ H) ∨ (J.go i H ∧ ∃ N : L2.St → Hp → Prop, (∀ σ' H', N σ' H' → ∃ m', m' < m ∧ W (i + 1) m' σ' H') ∧ ∀ x H', J.yld i H x H' → g x σ H' fun σ2 H2 => tb { D with nx := N, ct := N, bk := D.nx } σ2 H2) := by
  refine ⟨fun i m σ H => m = n - i ∧ i ≤ n ∧ Pv i σ H, ⟨n, by simp, Nat.zero_le _, h0⟩, ?_⟩
  rintro i m σ H ⟨rfl, hi, p⟩
  by_cases hlt : i < n
  · exact .inr ⟨hgo i σ H hlt p, Pv (i + 1), fun σ' H' p' => ⟨n - (i + 1), by omega, rfl, hlt, p'⟩, fun x H' y => hs i σ H x H' hlt p y⟩
  · obtain rfl : i = n := by omega
    exact .inl ⟨hst σ H p, hd σ H p⟩
end XK

/-! Readings, one step each. -/
namespace XK
open PySem PySem.Spec PyProof.Rows L2
section
variable {σ : L2.St} {H : Hp} {Q : VK} {i : Nat} {v x y : V} {ta tb te : TE} {K : PySem.W.Frag}
theorem n_var (h : σ[i]? = some (some v)) (q : Q v H) : tVar i σ H Q := ⟨v, h, q⟩
theorem n_c (q : Q v H) : tC v σ H Q := q
theorem n_op {r : R2} (h : ta σ H fun x H1 => tb σ H1 fun y H2 => r x y H2 Q) : tOp r ta tb σ H Q := h
theorem n_un {r : V → Hp → VK → Prop} (h : ta σ H fun x H1 => r x H1 Q) : tUn r ta σ H Q := h
theorem n_I0 {g : Int → Int → V} {a b : Int} (q : Q (g a b) H) : rI0 g (.int a) (.int b) H Q := ⟨a, b, rfl, rfl, q⟩
theorem n_U {g : Int → V} {a : Int} (q : Q (g a) H) : rU g (.int a) H Q := ⟨a, rfl, q⟩
theorem n_mod {g : Int → Int → V} {a b : Int} (h : 0 < b) (q : Q (g a b) H) : rI (fun _ j => 0 < j) g (.int a) (.int b) H Q := ⟨a, b, rfl, rfl, h, q⟩
theorem n_mul {g : Int → Int → V} {a b : Int} (h : (-(2 ^ 64) < a ∧ a < 2 ^ 64) ∨ (-(2 ^ 64) < b ∧ b < 2 ^ 64)) (q : Q (g a b) H) : rI CMul g (.int a) (.int b) H Q := ⟨a, b, rfl, rfl, h, q⟩
theorem n_div {g : Int → Int → V} {a b : Int} (h : 0 < b ∧ b < 1073741824) (q : Q (g a b) H) : rI CDiv g (.int a) (.int b) H Q := ⟨a, b, rfl, rfl, h, q⟩
theorem n_pow {g : Int → Int → V} {a b : Int} (h : 0 ≤ b ∧ b ≤ 1000000 ∧ a.natAbs < 2 ^ 64) (q : Q (g a b) H) : rI CPow g (.int a) (.int b) H Q := ⟨a, b, rfl, rfl, h, q⟩
theorem n_eq (h : scal x y = true) (q : Q (.bl (decide (x = y))) H) : rEq x y H Q := ⟨h, q⟩
theorem n_ne (h : scal x y = true) (q : Q (.bl (!decide (x = y))) H) : rNe x y H Q := ⟨h, q⟩
theorem n_nil {Q : List V → Hp → Prop} (q : Q [] H) : tNil σ H Q := q
theorem n_cons {t : TA} {Q : List V → Hp → Prop} (h : ta σ H fun x H1 => t σ H1 fun xs H2 => Q (x :: xs) H2) : tCons ta t σ H Q := h
theorem n_tup {t : TA} (h : t σ H fun xs H1 => xs.length ≤ sizeLine ∧ ∀ p, H1 p = none → Q (.ref p) (upd H1 p (.tup xs))) : tTup t σ H Q := h
theorem n_lst {t : TA} (h : t σ H fun xs H1 => xs.length ≤ sizeLine ∧ ∀ p, H1 p = none → Q (.ref p) (upd H1 p (.lst xs))) : tLst t σ H Q := h
theorem n_cb {r : List V → Hp → VK → Prop} {t : TA} (h : t σ H fun vs H1 => r vs H1 Q) : tCB r t σ H Q := h
theorem n_callS {sp : Sp} {E : L2.St → XK} {t : TA} (h : t σ H fun vs H1 => sp vs H1 Q (E σ)) : tCallS sp E t σ H Q := h
theorem n_callGK {sp : Sp} {gV : List V → List V → List V} {E : L2.St → XK} {t tk : TA} (h : t σ H fun vs H1 => tk σ H1 fun zs H2 => sp (gV vs zs) H2 Q (E σ)) : tCallGK sp gV E t tk σ H Q := h
theorem n_if {t : TT} (h : t σ H fun c H1 => if c = true then ta σ H1 Q else tb σ H1 Q) : tIf t ta tb σ H Q := h
section
variable {t u : TT} {T : Bool → Hp → Prop}
theorem n_test (h : te σ H fun x H' => ∃ k, x = .bl k ∧ T k H') : tTest te σ H T := h
theorem n_tB (h : te σ H fun x H' => ∃ k, x = .bl k ∧ T k H') : tB te σ H T := h
theorem n_bl {b : Bool} {R : Bool → Prop} (q : R b) : ∃ k, V.bl b = .bl k ∧ R k := ⟨b, rfl, q⟩
theorem n_not (h : t σ H fun c H1 => T (!c) H1) : tNot t σ H T := h
theorem n_and (h : t σ H fun c H1 => if c = true then u σ H1 T else T false H1) : tAnd t u σ H T := h
theorem n_or (h : t σ H fun c H1 => if c = true then T true H1 else u σ H1 T) : tOr t u σ H T := h
end
theorem n_andV (h : ta σ H fun x H1 => ∃ c, x = .bl c ∧ if c = true then tb σ H1 Q else Q (.bl false) H1) : tAndV ta tb σ H Q := h
theorem n_orV (h : ta σ H fun x H1 => ∃ c, x = .bl c ∧ if c = true then Q (.bl true) H1 else tb σ H1 Q) : tOrV ta tb σ H Q := h
theorem n_notV (h : ta σ H fun x H1 => ∃ c, x = .bl c ∧ Q (.bl (!c)) H1) : tNotV ta σ H Q := h
end
section
variable {D : Ends} {σ : L2.St} {H : Hp} {t1 t2 : TS} {te : TE} {tt : TT} {i : Nat}
theorem m_seq (h : t1 { D with nx := t2 D } σ H) : tSeq t1 t2 D σ H := h
theorem m_asg (h : te σ H fun v H1 => D.nx (σ.set i (some v)) H1) : tAsg te (gName i) D σ H := h
theorem m_ret (h : te σ H D.rt) : tRet te D σ H := h
theorem m_drop (h : te σ H fun _ H1 => D.nx σ H1) : tDrop te D σ H := h
theorem m_next (h : D.nx σ H) : tNext D σ H := h
theorem m_if (h : tt σ H fun c H1 => if c = true then t1 D σ H1 else t2 D σ H1) : tIfS tt t1 t2 D σ H := h
end

/-! dicts by text keys -/
theorem n_dg {H : Hp} {R : V → Prop} {p : Addr} {kvs : List (Key × V)} {k : Str} {v : V} (e : H p = some (.dK kvs)) (g : valV kvs (Sum.inr k : Key) = some v) (q : R v) : ∃ a v, V.ref p = .ref a ∧ DGet H a (.str k) (some v) ∧ R v :=
  ⟨p, v, rfl, by rw [← g]; exact DGet.k (k := (Sum.inr k : Key)) e, q⟩
theorem n_dp {H : Hp} {p : Addr} {kvs kvs' : List (Key × V)} {k : Str} {v : V} {N : Hp → Prop} (e : H p = some (.dK kvs)) (g : putK kvs (Sum.inr k : Key) v = kvs') (hl : kvs.length ≤ 1000) (q : N (upd H p (.dK kvs'))) : ∃ a H', V.ref p = .ref a ∧ DPut H a (.str k) v H' ∧ N H' :=
  ⟨p, _, rfl, DPut.k (k := (Sum.inr k : Key)) e (small1000 hl), by rw [g]; exact q⟩
theorem n_tdg {σ : L2.St} {H : Hp} {Q : VK} {td ty : TE} (h : td σ H fun x H1 => ty σ H1 fun y H2 => ∃ a v, x = .ref a ∧ DGet H2 a y (some v) ∧ Q v H2) : tDGet td ty σ H Q := h
theorem m_dput {D : Ends} {σ : L2.St} {H : Hp} {td ty tv : TE} (h : tv σ H fun v H1 => td σ H1 fun x H2 => ty σ H2 fun y H3 => ∃ a H4, x = .ref a ∧ DPut H3 a y v H4 ∧ D.nx σ H4) : sDPut td ty tv D σ H := h
/-! list + list, both to be read -/
def rCatL (K : PySem.W.Frag) : R2 := fun x y H Q => ∃ l b xs zs, x = .ref l ∧ y = .ref b ∧ SqL K H l xs ∧ SqL K H b zs ∧ xs.length + zs.length ≤ sizeLine ∧ ∀ p, H p = none → Q (.ref p) (upd H p (.lst (xs ++ zs)))
theorem op_catL {X : Cx} : OpR X (binaryOp .Add) (rCatL X.K) := by
  intro pins s σ H x y v u Q I rx ry h
  obtain ⟨l, b, xs, zs, rfl, rfl, hl, hb, hz, q⟩ := h
  cases rx
  cases ry
  obtain ⟨its, r, ⟨⟨c1, d1, dt1, s1⟩, n, ho, hc, _, hd⟩, z1⟩ := I.list hl
  obtain ⟨its2, r2, ⟨⟨c2, d2, dt2, s2⟩, n2, ho2, hc2, _, hd2⟩, z2⟩ := I.list hb
  simp only at hc hd hc2 hd2
  subst hc hd hc2 hd2
  have e1 := r.length
  have e2 := r2.length
  have e : its.toArray ++ its2.toArray = (its ++ its2).toArray := by simp
  refine concat_meets ⟨_, ho, rfl⟩ ⟨_, ho2, rfl⟩ noFill_list_add seq_list_add PySem.F.slot_list_add PySem.F.entry_list_add (PySem.F.args_list_add_2 _ _) (list_addW l b its.toArray its2.toArray n n2 d1 d2 s1 s2 (by simp; omega)) ⟨ho, ho2, ?_⟩
  rw [e]
  exact ⟨.ref _, _, I.lnew (t' := s.toks) (r.append r2) (by rw [List.length_append]; exact hz), rfl, q _ I.fresh⟩
theorem merge_new : ∀ (kvs acc : List (Key × V)), (∀ kv ∈ kvs, valV acc kv.1 = none) → (kvs.map (·.1)).Nodup → mergeK acc kvs = acc ++ kvs
  | [], acc, _, _ => (List.append_nil acc).symm
  | x :: r, acc, h, nd => by
    have h1 := h x List.mem_cons_self
    have nd2 := List.nodup_cons.mp (show (x.1 :: r.map (·.1)).Nodup from nd)
    show mergeK (putK acc x.1 x.2) r = acc ++ x :: r
    rw [putK_new x.2 h1, merge_new r (acc ++ [(x.1, x.2)]) (fun kv hk => ?_) nd2.2, List.append_assoc]
    · rfl
    · rw [valV_snoc x.1 kv.1 x.2 acc h1, if_neg (fun e : kv.1 = x.1 => nd2.1 (by rw [← e]; exact List.mem_map_of_mem hk))]
      exact h kv (List.mem_cons_of_mem _ hk)
theorem merge_nil {kvs : List (Key × V)} (nd : (kvs.map (·.1)).Nodup) : mergeK [] kvs = kvs := merge_new kvs [] (fun _ _ => rfl) nd
theorem n_ite {b : Bool} {A B : Prop} (h1 : b = true → A) (h2 : b = false → B) : if b = true then A else B := by
  cases b with
  | true => exact h1 rfl
  | false => exact h2 rfl
theorem d_true {p : Prop} [Decidable p] (h : decide p = true) : p := of_decide_eq_true h
theorem d_false {p : Prop} [Decidable p] (h : decide p = false) : ¬ p := of_decide_eq_false h
theorem at_in {α : Type} {xs : List α} {i : Int} (h0 : 0 ≤ i) (h1 : i < xs.length) : ∃ v, atI xs i = some v ∧ v ∈ xs := by
  obtain ⟨j, rfl⟩ := Int.eq_ofNat_of_zero_le h0
  have hj : j < xs.length := by omega
  exact ⟨xs[j], atI_nat (by simp [hj]), List.getElem_mem hj⟩
theorem at_ints {ns : List Int} {i : Int} (h0 : 0 ≤ i) (h1 : i < (ns.map V.int).length) : ∃ n, atI (ns.map V.int) i = some (.int n) := by
  obtain ⟨v, e, hm⟩ := at_in h0 h1
  obtain ⟨n, _, rfl⟩ := List.mem_map.mp hm
  exact ⟨n, e⟩
section
variable {D : Ends} {σ : L2.St} {H : Hp} {Q : VK} {K : PySem.W.Frag}
theorem m_par {i j : Nat} {ta : TA} (h : ta σ H fun vs H1 => ∃ v w, vs = [v, w] ∧ D.nx ((σ.set i (some v)).set j (some w)) H1) : tPar i j ta D σ H := h
theorem n_vw {v w : V} {R : V → V → Prop} (q : R v w) : ∃ v' w', [v, w] = [v', w'] ∧ R v' w' := ⟨v, w, rfl, q⟩
theorem m_for {wi : TI} {g : TG} {tb : TS} (h : wi σ H fun J H1 => ∃ W : Nat → Nat → L2.St → Hp → Prop, (∃ m, W 0 m σ H1) ∧ ∀ i m σ H, W i m σ H →
    (J.stop i H ∧ D.nx σ H) ∨ (J.go i H ∧ ∃ N : L2.St → Hp → Prop, (∀ σ' H', N σ' H' → ∃ m', m' < m ∧ W (i + 1) m' σ' H') ∧ ∀ x H', J.yld i H x H' → g x σ H' fun σ2 H2 => tb { D with nx := N, ct := N, bk := D.nx } σ2 H2)) : tFor wi g tb D σ H := h
theorem n_rng1 {ta : TA} {R : It → Hp → Prop} (h : ta σ H fun vs H1 => ∃ j : Int, vs = [.int j] ∧ -(2 ^ 62) ≤ j ∧ j < 2 ^ 62 ∧ R (Itr 0 j.toNat) H1) : iRng1 ta σ H R := h
theorem n_bm {T : String} {r : V → List V → Hp → VK → Prop} {to : TE} {t : TA} (h : to σ H fun x H1 => tyV K T x H1 ∧ t σ H1 fun xs H2 => r x xs H2 Q) : tBM K T r to t σ H Q := h
theorem n_bm0 {T : String} {r : V → List V → Hp → VK → Prop} {to : TE} (h : to σ H fun x H1 => tyV K T x H1 ∧ r x [] H1 Q) : tBM0 K T r to σ H Q := h
theorem n_app {l : Addr} {xs : List V} {y : V} (h : H l = some (.lst xs)) (z : xs.length < 1000) (q : Q .non (upd H l (.lst (xs ++ [y])))) : rAppend (.ref l) [y] H Q := ⟨l, xs, y, rfl, rfl, h, small1000 (Nat.le_of_lt z), q⟩
theorem n_lty {l : Addr} {xs : List V} {A : Prop} (h : H l = some (.lst xs)) (q : A) : tyV K "list" (.ref l) H ∧ A := ⟨Or.inl ⟨rfl, _, SqL.of h⟩, q⟩
theorem n_ixL {p : Addr} {xs : List V} {i : Int} {v : V} (h : SqL K H p xs) (e : atI xs i = some v) (q : Q v H) : rIxL K (.ref p) (.int i) H Q := ⟨p, xs, i, v, rfl, rfl, h, e, q⟩
theorem n_ixT {p : Addr} {xs : List V} {i : Int} {v : V} (h : SqT K H p xs) (e : atI xs i = some v) (q : Q v H) : rIxT K (.ref p) (.int i) H Q := ⟨p, xs, i, v, rfl, rfl, h, e, q⟩
end
theorem m_gn {i : Nat} {v : V} {σ : L2.St} {H : Hp} {R : L2.St → Hp → Prop} (h : R (σ.set i (some v)) H) : gName i v σ H R := h
section
variable {D : Ends} {σ : L2.St} {H : Hp} {Q : VK} {K : PySem.W.Frag}
theorem m_asgG {te : TE} {g : TG} (h : te σ H fun x H1 => g x σ H1 D.nx) : tAsg te g D σ H := h
theorem n_gnil {R : L2.St → Hp → Prop} (q : R σ H) : gNil [] σ H R := ⟨rfl, q⟩
theorem n_gcons {t : TG} {u : TGs} {v : V} {r : List V} {R : L2.St → Hp → Prop} (h : t v σ H fun σ' H' => u r σ' H' R) : gCons t u (v :: r) σ H R := ⟨v, r, rfl, h⟩
theorem n_gtup {n : Nat} {t : TGs} {a : Addr} {xs : List V} {R : L2.St → Hp → Prop} (h : SqT K H a xs) (l : xs.length = n) (q : t xs σ H R) : gTup K n t (.ref a) σ H R := ⟨a, xs, rfl, h, l, q⟩
theorem n_sl {r : V → Option Int → Option Int → Hp → VK → Prop} {te : TE} {tl th : TO} (h : te σ H fun x H1 => tl σ H1 fun l H2 => th σ H2 fun u H3 => r x l u H3 Q) : L2.tSl r te tl th σ H Q := h
theorem n_nop {R : Option Int → Hp → Prop} (q : R none H) : tNoPart σ H R := q
theorem n_part {t : TE} {R : Option Int → Hp → Prop} (h : t σ H fun x H1 => ∃ i, x = .int i ∧ R (some i) H1) : tPart t σ H R := h
theorem n_int {i : Int} {R : Int → Prop} (q : R i) : ∃ j, V.int i = .int j ∧ R j := ⟨i, rfl, q⟩
theorem n_slS {z : Str} {l u : Option Int} (hz : z.length ≤ 100000) (q : Q (.str (cutS z l u)) H) : rSlS (.str z) l u H Q := ⟨z, rfl, Nat.le_trans hz (by decide), q⟩
end
theorem cutS_mem {z : Str} {l u : Option Int} {c : Nat} (h : c ∈ (cutS z l u).cps.toList) : c ∈ z.cps.toList := by
  have h1 : c ∈ (z.cps.toList.drop (HT.sIx z.length 0 l)).take (HT.sIx z.length z.length u - HT.sIx z.length 0 l) := by simpa [cutS] using h
  exact List.mem_of_mem_drop (List.mem_of_mem_take h1)
/-- cut at one place -/
theorem cutS_len2 {z : Str} {k : Int} (h0 : 0 ≤ k) (h1 : k ≤ z.length) : (cutS z none (some k)).length + (cutS z (some k) none).length = z.length := by
  obtain ⟨j, rfl⟩ := Int.eq_ofNat_of_zero_le h0
  have e1 : HT.sIx z.length z.length (some (j : Int)) = min j z.length := HT.sIx_nat _ _ _
  have e2 : HT.sIx z.length 0 (some (j : Int)) = min j z.length := HT.sIx_nat _ _ _
  show (((z.cps.toList.drop 0).take (HT.sIx z.length z.length (some (j : Int)) - 0)).toArray).size + (((z.cps.toList.drop (HT.sIx z.length 0 (some (j : Int)))).take (z.length - HT.sIx z.length 0 (some (j : Int)))).toArray).size = z.cps.size
  rw [e1, e2, List.size_toArray, List.size_toArray, List.length_take, List.length_take, List.length_drop, List.length_drop, Array.length_toList]
  show min (min j z.cps.size - 0) (z.cps.size - 0) + min (z.cps.size - min j z.cps.size) (z.cps.size - min j z.cps.size) = z.cps.size
  omega
end XK

/-! More by values: a text times a number. -/
namespace XK
open PySem PySem.Spec PyProof.Rows L2
def repS (k : Nat) (a : Str) : Str := ⟨((List.replicate k a.cps.toList).flatten).toArray⟩
theorem rep_fold (c : Array Nat) : ∀ (n : Nat) (acc : Array Nat), (List.replicate n c).foldl (· ++ ·) acc = acc ++ ((List.replicate n c.toList).flatten).toArray
  | 0, acc => by simp
  | n + 1, acc => by
    rw [List.replicate_succ, List.foldl_cons, rep_fold c n, List.replicate_succ, List.flatten_cons]
    rw [Array.append_assoc]
    congr 1
    apply Array.ext'
    simp
theorem repS_len (k : Nat) (a : Str) : (repS k a).length = k * a.length := by
  show (((List.replicate k a.cps.toList).flatten).toArray).size = k * a.cps.size
  rw [List.size_toArray, List.length_flatten, List.map_replicate, List.sum_replicate_nat, Array.length_toList]
def rMulS : R2 := fun x y H Q => ∃ (a : Str) (k : Int), x = .str a ∧ y = .int k ∧ 0 ≤ k ∧ k ≤ 1000 ∧ a.length ≤ 1000 ∧ Q (.str (repS k.toNat a)) H
theorem op_mulS {X : Cx} : OpR X (binaryOp .Mult) rMulS := by
  intro pins s σ H x y v u Q I rx ry h
  obtain ⟨a, k, rfl, rfl, k0, k1, ha, q⟩ := h
  obtain ⟨t, rfl⟩ := rx
  obtain ⟨t', rfl⟩ := ry
  have hm : a.length * k.toNat ≤ 1000 * 1000 := Nat.mul_le_mul ha (by omega)
  refine PySem.P.mul_str (by rw [decide_eq_false (by omega), decide_eq_false (by omega)]; rfl) (fun h1 _ => ?_) (fun h1 _ => ?_) ?_
  · have e : (1000 : Int) ≤ (2 ^ 63 - 1) / k := Int.le_ediv_of_mul_le (by omega) (by omega)
    omega
  · exact decide_eq_false (by rw [sizeLine_eq]; omega)
  · by_cases h1 : k < 1
    · rw [if_pos h1]
      have e : repS k.toNat a = Str.empty := by
        rw [show k.toNat = 0 by omega]
        rfl
      rw [e] at q
      exact ⟨by decide, ⟨.str _, H, I.tok _, ⟨_, rfl⟩, q⟩⟩
    · rw [if_neg h1]
      by_cases h2 : (k == 1 || a.length == 0) = true
      · rw [if_pos h2]
        have e : repS k.toNat a = a := by
          rcases Bool.or_eq_true_iff.mp h2 with h3 | h3
          · rw [show k.toNat = 1 by have := eq_of_beq h3; omega]
            show (⟨((List.replicate 1 a.cps.toList).flatten).toArray⟩ : Str) = a
            simp
          · have hz : a.cps.size = 0 := eq_of_beq h3
            have ez : a.cps = #[] := Array.size_eq_zero_iff.mp hz
            obtain ⟨cs⟩ := a
            dsimp only at ez
            subst ez
            show (⟨((List.replicate k.toNat []).flatten).toArray⟩ : Str) = _
            simp
        rw [e] at q
        exact ⟨.str a, H, I, ⟨_, rfl⟩, q⟩
      · rw [if_neg h2, rep_fold]
        have e : (⟨#[] ++ ((List.replicate k.toNat a.cps.toList).flatten).toArray⟩ : Str) = repS k.toNat a := by
          unfold repS
          simp
        rw [e]
        refine ⟨?_, ⟨.str _, H, I.tok _, ⟨_, rfl⟩, q⟩⟩
        rw [repS_len, Nat.mul_comm, sizeLine_eq]
        omega
end XK

/-! Data in the heap: kept, looked at, its type. -/
namespace XK
open PySem PySem.Spec PyProof.Rows L2
theorem rd_same {H H' : Hp} {a : Addr} {u : HO} (e : Same H H') (h : Rd H a u) : Rd H' a u := by
  rcases h with h | ⟨o, h⟩
  · exact Or.inl (e a _ h)
  · exact Or.inr ⟨o, e a _ h⟩
theorem sqt_same {K : PySem.W.Frag} {H H' : Hp} {a : Addr} {xs : List V} (e : Same H H') (h : SqT K H a xs) : SqT K H' a xs := by
  rcases h with h | h
  · exact Or.inl (rd_same e h)
  · exact Or.inr h
theorem same_new {H : Hp} {p : Addr} {o : HO} (h : H p = none) : Same H (upd H p o) := fun b u e => by rw [upd_ne (ne_of_none e h)]; exact e
/-- a change at p, of what was not there -/
theorem same_at {H H' : Hp} {p : Addr} {o : HO} (e : Same H H') (h : H p = none) : Same H (upd H' p o) := fun b u q => by rw [upd_ne (ne_of_none q h)]; exact e b u q
mutual
theorem Dz.same {K : PySem.W.Frag} {H H' : Hp} (e : Same H H') : ∀ {v : V} {d : PyData}, Dz K H v d → Dz K H' v d
  | _, _, .non => .non
  | _, _, .bl b => .bl b
  | _, _, .int i => .int i
  | _, _, .str x => .str x
  | _, _, .lst h a => .lst (Same.seq e h) (DzA.same e a)
  | _, _, .tup h a => .tup (sqt_same e h) (DzA.same e a)
  | _, _, .dic h => .dic (e _ _ h)
theorem DzA.same {K : PySem.W.Frag} {H H' : Hp} (e : Same H H') : ∀ {vs : List V} {ds : List PyData}, DzA K H vs ds → DzA K H' vs ds
  | _, _, .nil => .nil
  | _, _, .cons a b => .cons (Dz.same e a) (DzA.same e b)
end
theorem DzA.len {K : PySem.W.Frag} {H : Hp} : ∀ {vs : List V} {ds : List PyData}, DzA K H vs ds → vs.length = ds.length
  | _, _, .nil => rfl
  | _, _, .cons _ b => by rw [List.length_cons, List.length_cons, DzA.len b]
theorem DzA.get {K : PySem.W.Frag} {H : Hp} : ∀ {vs : List V} {ds : List PyData} {i : Nat} {d : PyData}, DzA K H vs ds → ds[i]? = some d → ∃ v, vs[i]? = some v ∧ Dz K H v d
  | _, _, _, _, .nil, e => by simp at e
  | _, _, 0, _, .cons a _, e => by
    simp at e
    subst e
    exact ⟨_, rfl, a⟩
  | _, _, i + 1, _, .cons _ b, e => by
    obtain ⟨v, h1, h2⟩ := DzA.get b (i := i) (by simpa using e)
    exact ⟨v, by simpa using h1, h2⟩
theorem DzA.at {K : PySem.W.Frag} {H : Hp} {vs : List V} {ds : List PyData} {i : Nat} {v : V} (h : DzA K H vs ds) (e : vs[i]? = some v) : ∃ d, ds[i]? = some d ∧ Dz K H v d := by
  have hi : i < ds.length := by rw [← DzA.len h]; exact (List.getElem?_eq_some_iff.mp e).1
  obtain ⟨v', h1, h2⟩ := DzA.get h (i := i) (d := ds[i]) (by simp [hi])
  rw [h1] at e
  cases e
  exact ⟨_, by simp [hi], h2⟩
theorem DzA.snoc {K : PySem.W.Frag} {H : Hp} : ∀ {vs : List V} {ds : List PyData} {v : V} {d : PyData}, DzA K H vs ds → Dz K H v d → DzA K H (vs ++ [v]) (ds ++ [d])
  | _, _, _, _, .nil, h => .cons h .nil
  | _, _, _, _, .cons a b, h => .cons a (DzA.snoc b h)
theorem DzA.append {K : PySem.W.Frag} {H : Hp} : ∀ {vs ws : List V} {ds es : List PyData}, DzA K H vs ds → DzA K H ws es → DzA K H (vs ++ ws) (ds ++ es)
  | _, _, _, _, .nil, h => h
  | _, _, _, _, .cons a b, h => .cons a (DzA.append b h)
/-- a datum's type -/
def tyD : PyData → String
  | .none => "NoneType"
  | .bool _ => "bool"
  | .int _ => "int"
  | .str _ => "str"
  | .list _ => "list"
  | .tuple _ => "tuple"
  | .dict _ => "dict"
theorem Dz.ty {K : PySem.W.Frag} {H : Hp} {v : V} {d : PyData} (h : Dz K H v d) : TyX K H v (.type (tyD d)) := by
  cases h with
  | non => exact .base .non
  | bl b => exact .base (.bl b)
  | int i => exact .base (.int i)
  | str x => exact .base (.str x)
  | lst h _ =>
    rcases h with (h | ⟨o, h⟩) | ⟨o, its, n, hk, hc, _⟩
    · exact .base (.lst h)
    · exact .base (.frz h)
    · exact .kList hk hc
  | tup h _ =>
    rcases h with (h | ⟨o, h⟩) | ⟨o, its, n, hk, hc, _⟩
    · exact .base (.tup h)
    · exact .fTuple h
    · exact .kTuple hk hc
  | dic h => exact .base (.dK h)
/-- isinstance(x, T), x data -/
theorem n_isi {K : PySem.W.Frag} {H : Hp} {Q : VK} {v : V} {d : PyData} {T : String} {b : Bool} (h : Dz K H v d) (k : kitB (tyD d) T = some b) (q : Q (.bl b) H) : rIsi K [v, .ty T] H Q :=
  ⟨v, .ty T, _, _, b, rfl, .ty T, h.ty, kit_ty k, q⟩
theorem is_int (d : PyData) : kitB (tyD d) "int" = some (match d with | .int _ => true | .bool _ => true | _ => false) := by cases d <;> (simp only [tyD]; decide +kernel)
theorem is_bool (d : PyData) : kitB (tyD d) "bool" = some (match d with | .bool _ => true | _ => false) := by cases d <;> (simp only [tyD]; decide +kernel)
theorem is_str (d : PyData) : kitB (tyD d) "str" = some (match d with | .str _ => true | _ => false) := by cases d <;> (simp only [tyD]; decide +kernel)
theorem is_tuple (d : PyData) : kitB (tyD d) "tuple" = some (match d with | .tuple _ => true | _ => false) := by cases d <;> (simp only [tyD]; decide +kernel)
section
variable {D : Ends} {σ : L2.St} {H : Hp} {Q : VK} {K : PySem.W.Frag}
theorem n_chain {r r' : R2} {ta tb tc : TE} (h : ta σ H fun x H1 => tb σ H1 fun y H2 => r x y H2 fun z H3 => ∃ k, z = .bl k ∧ (if k = true then tc σ H3 fun w' H4 => r' y w' H4 Q else Q (.bl false) H3)) : tChain r r' ta tb tc σ H Q := h
theorem m_rz {C : Addr} {f : Str} {W : WX} {te : TE} (h : te σ H fun v H1 => ∀ d, H1 d = none → W (.ref C) (some d) σ (upd H1 d (.xd [(f, v)]))) : tRz C f W te D σ H := h
theorem n_iet {ta : TA} {R : It → Hp → Prop} (h : ta σ H fun vs H1 => ∃ a xs, vs = [.ref a] ∧ SqT K H1 a xs ∧ R (Iet K a xs) H1) : iEt K ta σ H R := h
theorem n_ies {ta : TA} {R : It → Hp → Prop} (h : ta σ H fun vs H1 => ∃ z, vs = [.str z] ∧ R (Ies z) H1) : iEs ta σ H R := h
theorem n_itup {tl : TE} {R : It → Hp → Prop} (h : tl σ H fun x H1 => ∃ a, x = .ref a ∧ (∃ xs, SqT K H1 a xs) ∧ R (Itt K a) H1) : iTup K tl σ H R := h
theorem n_ilist {tl : TE} {R : It → Hp → Prop} (h : tl σ H fun x H1 => ∃ a, x = .ref a ∧ (∃ xs, SqL K H1 a xs) ∧ R (Itl K a) H1) : iList K tl σ H R := h
theorem n_istr {te : TE} {R : It → Hp → Prop} (h : te σ H fun v H1 => ∃ x, v = .str x ∧ R (Its x) H1) : iStr te σ H R := h
theorem n_m1 {r : V → List V → Hp → VK → Prop} {to te : TE} (h : to σ H fun x H1 => (∃ a, x = .str a) ∧ te σ H1 fun y H2 => r x [y] H2 Q) : tM1 r to te σ H Q := h
theorem n_strA {z : Str} {A : Prop} (q : A) : (∃ a, V.str z = .str a) ∧ A := ⟨⟨z, rfl⟩, q⟩
theorem n_lc {wi : TI} {g : TG} {tt : TT} {te : TE} {vs : List Nat} (h : wi σ H fun J H1 => ∀ D, H1 D = none → ∃ W : Nat → Nat → Hp → Prop, (∃ m, W 0 m (upd H1 D (.lst []))) ∧ ∀ i m H, W i m H →
  (J.stop i H ∧ Q (.ref D) H) ∨ (J.go i H ∧ ∃ Nx : Hp → Prop, (∀ H', Nx H' → ∃ m', m' < m ∧ W (i + 1) m' H') ∧ ∀ x H', J.yld i H x H' → g x (wipe σ vs) H' fun σ2 H2 => wipe σ2 vs = wipe σ vs ∧ tt σ2 H2 fun b H3 =>
    if b = true then te σ2 H3 fun y H4 => ∃ acc, H4 D = some (.lst acc) ∧ acc.length < sizeLine ∧ Nx (upd H4 D (.lst (acc ++ [y]))) else Nx H3)) : tLc wi g tt te vs σ H Q := h
end
theorem n_xo {K : PySem.W.Frag} {n : Str} {te : TE} {σ : L2.St} {H : Hp} {Q : VK} (h : te σ H fun x H1 => ∃ (a C d : Addr) (fs : List (Str × V)) (v : V), x = .ref a ∧ H1 a = some (Xo a (.ref C) (some d)) ∧ H1 d = some (.xd fs) ∧ XfC K C ∧ PySem.W.findIn K (.ref C) n = some none ∧ fs.lookup n = some v ∧ Q v H1) : tXo K n te σ H Q := h
theorem n_yes {σ : L2.St} {H : Hp} {T : Bool → Hp → Prop} (q : T true H) : tYes σ H T := q
section
variable {X : Cx} {x : Str} {pos : Pos}
theorem pe_ty {T : String} (hg : Gl X x) (hm : X.mg x = none) (hv : bootBuiltins x = some (.type T)) (hn : x ≠ "__name__" := by decide) (hd : (x == ("__debug__" : Str)) = false := by decide) : PE X (.Name x pos) (tC (.ty T)) := pe_bltn hg hm hv rfl hn hd
theorem pe_gk1 {v : V} (hg : Gl X x) (h : ∃ u, X.mg x = some u ∧ RelV v u) (hd : (x == ("__debug__" : Str)) = false := by decide) : PE X (.Name x pos) (tC v) := by
  obtain ⟨u, hm, r⟩ := h
  exact pe_glob hg hm r hd
end
end XK

/-! sum of a tuple, list of a text. -/
namespace XK
open PySem PySem.Spec PyProof.Rows L2
section
variable {X : Cx}
def rSumT (K : PySem.W.Frag) : List V → Hp → VK → Prop := fun vs H Q => ∃ (a : Addr) (ns : List Int), vs = [V.ref a] ∧ SqT K H a (ns.map V.int) ∧ Q (.int ns.sum) H
theorem call_sumT (hc : X.calm = true) : CallR X (.builtin "sum") (rSumT X.K) := by
  intro pins s σ H vs us Q I r h
  obtain ⟨a, ns, rfl, hs, q⟩ := h
  obtain ⟨its, rv, hl, _⟩ := I.tuple hs
  rw [Vals.ref1 r]
  have hi := rv.ints
  obtain ⟨xs, e⟩ := hi.allInts.items
  have hn : numsOf (intItems xs).toList = ns := by rw [← e]; exact hi.numsOf
  rw [nums_intItems] at hn
  rw [e] at hl
  refine PySem.W.ktm_sumG (I.ok.hd hc) hl fun h' tk t' hk => ?_
  rw [preSum_eq, List.take_of_length_le (by simp), hn]
  exact ⟨.int _, H, I.kept hk, ⟨_, rfl⟩, q⟩
def rListS : List V → Hp → VK → Prop := fun xs H Q => ∃ z : Str, xs = [.str z] ∧ z.length ≤ sizeLine ∧ ∀ l, H l = none → Q (.ref l) (upd H l (.lst (z.cps.toList.map fun c => .str ⟨#[c]⟩)))
theorem call_listS (hc : X.calm = true) : CallR X (.type "list") rListS := by
  intro pins s σ H xs us Q I r h
  obtain ⟨z, rfl, hz, q⟩ := h
  obtain ⟨u, rfl, t, rfl⟩ := vals1 r
  refine call_list_str (I.ok.hd hc) z t (hn := hz) fun h' tk acc' c' kp e it => ?_
  refine ⟨.ref s.heap.objs.size, _, I.laid (t' := tk) kp (Nat.le_refl _) (show ObjOk X.prog X.w _ h' _ (.lst (z.cps.toList.map fun c => V.str ⟨#[c]⟩)) from ⟨by rw [List.length_map, Array.length_toList]; exact hz, acc'.toList, c', ?_, by simpa using e⟩), rfl, q _ (I.hok.fresh (Nat.le_refl _))⟩
  refine vals_of_at (by rw [List.length_map, Array.length_toList, Array.length_toList]; exact it.1.symm) fun j x u hx hu => ?_
  obtain ⟨c, tk', hc', rfl⟩ := it.2 j u (by rw [← Array.getElem?_toList]; exact hu)
  rw [List.getElem?_map, Array.getElem?_toList, hc'] at hx
  cases hx
  exact ⟨tk', rfl⟩
end
end XK

/-! The end: a law whose def promises under Calm. -/
namespace XK
open PySem PySem.Spec PyProof.Rows L2
theorem callerCalm {k : Nat} (h : Room k callerA) : Calm k callerA := ⟨h, rfl⟩
/-- nothing is known but the script -/
def seenAt (a : Addr) (w : Bool) (its : List Value) (zs : List V) : Hp := fun c => if c = a ∧ w = true then some (.frz { cls := .type "list", data := .seq its.toArray } (.lst zs)) else none
theorem seen_some {a c : Addr} {w : Bool} {its : List Value} {zs : List V} {u : HO} (h : seenAt a w its zs c = some u) : c = a ∧ w = true ∧ u = .frz { cls := .type "list", data := .seq its.toArray } (.lst zs) := by
  unfold seenAt at h
  split at h
  · rename_i g
    cases h
    exact ⟨g.1, g.2, rfl⟩
  · cases h
section
variable {P : Program} {wd : World} {K : PySem.W.Frag} {mg mb : Str → Option Value} {k : Nat} {fa a : Addr} {fd : FuncData} {x : Str} {sp : Sp} {s1 : Shared} {its : List Value} {zs : List Int}
theorem law_g (inK : K.In s1.heap) (n1 : s1.heap.Ns mainGlobals mg) (n2 : s1.heap.Ns builtinsNs mb) (bb : ∀ y : Str, y ≠ "__name__" → mb y = bootBuiltins y) (nl : s1.heap.NoLimit) (ng : s1.gens = #[])
    (at1 : s1.heap.get? a = some { cls := .type "list", data := .seq its.toArray }) (hin : IntsAre its zs) (few : zs.length ≤ sizeLine) (room : Room k callerA)
    (F : ∀ base : Heap, K.In base → base.Ns mainGlobals mg → FnG P wd K mg base k fa fd [x] sp) (bd : ∀ (s : Shared) (u : Value), BindsTo s fd ⟨[u], []⟩ [(x, u)])
    (ask : ∀ H : Hp, SqL K H a (zs.map V.int) → sp [.ref a] H (fun v _ => v = .bl true) E0) :
    codeAny (model P wd) callerA (.call (.ref fa) ⟨[.ref a], []⟩) (fun r s2 => r = .ok (.ret (.bool true)) ∧ OldK s1.heap s2.heap ∧ s2.os = s1.os ∧ AllBare s2.gens) s1 := by
  have rel := vals_ints hin
  have same := hin.length
  obtain ⟨b, hb1, hb2⟩ : ∃ b : Bool, (b = true → K.lookup a = none) ∧ (b = false → ∃ o, K.lookup a = some o) := by
    cases q : K.lookup a with
    | none => exact ⟨true, fun _ => rfl, fun z => (by cases z)⟩
    | some o => exact ⟨false, fun z => (by cases z), fun _ => ⟨o, rfl⟩⟩
  have hidden : ∀ {c : Addr} {o : Obj}, s1.heap.get? c = some o → seenAt a b its (zs.map V.int) c = none → (hidT s1.heap (seenAt a b its (zs.map V.int))).get? c = some o := fun h1 h2 => hidT_get h1 h2
  have dicts : ∀ {c : Addr} {o : Obj} {es : Array DictEntry} {n : Nat}, s1.heap.get? c = some o → o.data = .dict es n → seenAt a b its (zs.map V.int) c = none := fun {c o es n} h1 h2 => by
    cases q : seenAt a b its (zs.map V.int) c with
    | none => rfl
    | some u =>
      obtain ⟨rfl, _, _⟩ := seen_some q
      rw [at1] at h1
      cases h1
      cases h2
  have keepNs : ∀ {c : Addr} {m : Str → Option Value}, s1.heap.Ns c m → (hidT s1.heap (seenAt a b its (zs.map V.int))).Ns c m := fun ⟨o, es, ep, h1, h2, h3⟩ => ⟨o, es, ep, hidden h1 (dicts h1 h2), h2, h3⟩
  have inB : K.In (hidT s1.heap (seenAt a b its (zs.map V.int))) := fun c o h => hidden (inK c o h) (by
    cases q : seenAt a b its (zs.map V.int) c with
    | none => rfl
    | some u =>
      obtain ⟨rfl, hw, _⟩ := seen_some q
      rw [hb1 hw] at h
      cases h)
  have okH : HOk P wd (seenAt a b its (zs.map V.int)) s1.heap := fun c u h => by
    obtain ⟨rfl, _, rfl⟩ := seen_some h
    exact ⟨at1, by rw [List.length_map]; exact few, its, _, rel, at1⟩
  have sq : SqL K (seenAt a b its (zs.map V.int)) a (zs.map V.int) := by
    cases b with
    | true => exact .inl (.inr ⟨_, if_pos ⟨rfl, rfl⟩⟩)
    | false =>
      obtain ⟨o, ho⟩ := hb2 rfl
      have h2 := inK a o ho
      rw [at1] at h2
      cases h2
      exact .inr ⟨_, its.toArray, _, ho, rfl, rfl, rfl, by rw [List.size_toArray, same]; exact few, by simpa using rel⟩
  have md : Mod K mg (hidT s1.heap (seenAt a b its (zs.map V.int))) := ⟨inB, keepNs n1, ⟨mb, keepNs n2, bb⟩, let ⟨mc, h1, h2⟩ := nl; ⟨mc, keepNs h1, h2⟩⟩
  have env : Env0 P wd K mg (hidT s1.heap (seenAt a b its (zs.map V.int))) callerA [] s1 (seenAt a b its (zs.map V.int)) :=
    ⟨rfl, md, fun c o h => of_hidT h, Nat.le_of_eq (hidT_size _ _), trivial, fun c hc => absurd (show c ∈ ([] : List Addr) from hc) (by simp), okH, .of_eq ng⟩
  refine codeAny_mono ((F _ inB (keepNs n1)).go callerA [] s1 _ ⟨[.ref a], []⟩ [.ref a] [.ref a] _ _ (callerCalm room) env (bd s1 (.ref a)) (.cons rfl .nil) (ask _ sq)) fun r s2 hq => ?_
  match r, hq with
  | .error e, hq =>
    obtain ⟨_, _, _, _, _, _, _, _, _, _, _, _, z⟩ := hq
    exact z.elim
  | .ok (.ret u), ⟨v, H2, os, bare, un, ok2, rv, q⟩ =>
    have q1 : v = .bl true := q
    subst q1
    obtain rfl : u = Value.bool true := rv
    refine ⟨rfl, OldK.of_keep fun c o h => ?_, os, bare⟩
    cases q2 : seenAt a b its (zs.map V.int) c with
    | none => exact un.keep c o h q2 (fun z => absurd (show c ∈ ([] : List Addr) from z) (by simp)) (by simp)
    | some u2 =>
      obtain ⟨rfl, _, rfl⟩ := seen_some q2
      obtain ⟨e1, _⟩ := ok2 c _ (un.frzs c _ _ q2)
      rw [at1] at h
      cases h
      exact e1
end
/-- what k_head leaves, from such a law -/
theorem walk_g {l : PySem.W.OpenLaw} {n k : Nat} {q : Program} {loose : List Str} {XP : (Str → Option Value) → Heap → Prop} {YP : World → Heap → Prop} {d : DefRec} {Kf : Params → PySem.W.Frag} {sp : PySem.W.Frag → Sp} {x : Str}
    (h1 : l.most = some n) (h2 : n ≤ sizeLine) (h3 : d.params.defaults = []) (h4 : Room k callerA) (hY : ∀ (wd : World) (h : Heap), YP wd h → (Kf wd.params).In h)
    (F : ∀ (wd : World) (mg : Str → Option Value) (fa : Addr) (h : Heap), (Kf wd.params).In h → h.Ns mainGlobals mg → mg d.name = some (.ref fa) →
      ∃ fd : FuncData, (∀ (s : Shared) (u : Value), BindsTo s fd ⟨[u], []⟩ [(x, u)]) ∧ ∀ base : Heap, (Kf wd.params).In base → base.Ns mainGlobals mg → FnG l.prog wd (Kf wd.params) mg base k fa fd [x] (sp (Kf wd.params)))
    (ask : ∀ (K : PySem.W.Frag) (H : Hp) (a : Addr) (zs : List Int), zs.length ≤ n → SqL K H a (zs.map V.int) → sp K [.ref a] H (fun v _ => v = .bl true) E0) :
    PySem.W.WalkO q loose XP YP l.row.toRowW d [] (fun f vs => PySem.call f vs) := by
  refine Att.attach_call h1 h3 fun wd s0 s1 mg mb fa o pm cd doc a its zs G Y ho hd hcd hmg hobj hints hlen hg => ?_
  obtain ⟨fd, hb, hF⟩ := F wd mg fa _ (hY wd _ Y) G.T.g hmg
  exact law_g (hY wd _ Y) G.T.g G.T.b G.T.builtins G.T.nolimit hg hobj hints (Nat.le_trans hlen h2) h4 hF hb fun H hS => ask _ H a zs hlen hS
end XK

/-! What the top has written, in packs. -/
namespace XK
open PySem PySem.Spec PyProof.Rows L2
/-- a def of the top -/
def Dn (K : PySem.W.Frag) (x : Str) (st : Stmt) : Prop := ∃ (f : Addr) (fd : FuncData), PySem.W.nsIn K mainGlobals x = some (some (.ref f)) ∧ Fun K x x st f fd
section
variable {K : PySem.W.Frag} {x q : Str} {st : Stmt}
theorem Dn.mk {f : Addr} {oc : Value} {od an : Option Addr} {osl : Array (Option Value)} {kV doc pm cdv ct : Value} (a : PySem.W.nsIn K mainGlobals x = some (some (.ref f)))
    (l : K.lookup f = some ⟨oc, od, .func (PySem.W.fnOf x x (defArgs st) (defBody st) (defScope st) .none kV doc pm an cdv ct), osl⟩) (c : PySem.W.codeIn K cdv x = true) (k : PySem.W.keepIn K (.ref f) = true) : Dn K x st := ⟨_, _, a, fun_mk l c k⟩
/-- an own error class of one field, its __init__ st -/
def En (K : PySem.W.Frag) (x q f : Str) (st : Stmt) (C : Addr) : Prop := ∃ (fI : Addr) (fd : FuncData), (∀ mg : Str → Option Value, mg x = some (.ref C) → Ec K mg x C fI f) ∧ Fun K "__init__" q st fI fd
theorem refs_own {c1 : Addr} : PySem.HandSPX.refsVE [.ref c1, .type "ValueError", .type "Exception", .type "BaseException", .type "object"] = true := rfl
theorem En.mk {f : Str} {C c1 fI : Addr} {nm qn : Str} {N : Addr} {bs : List Value} {sn : List Str} {sub : List Value} {ab : Bool} {col : Option Bool} {dd : Option Addr} {m0 m1 m2 m3 m5 : Option Value}
    {oc : Value} {od an : Option Addr} {osl : Array (Option Value)} {kV doc pm cdv ct : Value}
    (xL : K.lookup C = some (excClassObj nm qn C N bs [.ref c1, .type "ValueError", .type "Exception", .type "BaseException", .type "object"] true sn sub ab col dd m0 m1 m2 m3 m5 "ValueError.__new__"))
    (sa : PySem.W.findIn K (.ref C) "__setattr__" = some (some (.builtin "object.__setattr__"))) (exC : PySem.W.subIn K (.ref C) (.type "BaseException") = some true) (tyC : PySem.W.typeIn K (.ref C) = some (.type "type")) (kC : PySem.W.keepIn K (.ref C) = true)
    (iC : PySem.W.findIn K (.ref C) "__init__" = some (some (.ref fI))) (tI : PySem.W.typeIn K (.ref fI) = some (.type "function")) (nf : PySem.W.findIn K (.ref C) f = some none)
    (ga : PySem.W.findIn K (.ref C) "__getattribute__" = some (some (.builtin "BaseException.__getattribute__"))) (gg : PySem.W.findIn K (.ref C) "__getattr__" = some none) (hd : PySem.W.hasDictIn K C = true)
    (cl : PySem.W.findIn K (.ref C) "__class__" = some (some (.builtin "object.__class__"))) (sg : PySem.W.specialIn K (.builtin "object.__class__") "__get__" = some (some (.builtin "getset_descriptor.__get__"))) (tk : PySem.W.takesIn K (.builtin "object.__class__") = some true) (mo : PySem.W.mroIn K C (.type "object") = some true)
    (l : K.lookup fI = some ⟨oc, od, .func (PySem.W.fnOf "__init__" q (defArgs st) (defBody st) (defScope st) .none kV doc pm an cdv ct), osl⟩) (c : PySem.W.codeIn K cdv q = true) (k : PySem.W.keepIn K (.ref fI) = true) : En K x q f st C :=
  ⟨_, _, fun mg g => ⟨g, ⟨⟨nm, qn, N, bs, _, sn, sub, ab, col, dd, m0, m1, m2, m3, m5, xL, refs_own⟩, sa, exC, tyC, kC⟩, iC, tI, nf, ⟨ga, gg, exC, hd⟩, ⟨ga, gg, exC, hd, cl, sg, tk, mo⟩⟩, fun_mk l c k⟩
/-- a class as an except clause and isinstance see it -/
structure Cl (K : PySem.W.Frag) (c : Addr) : Prop where
  ex : PySem.W.subIn K (.ref c) (.type "BaseException") = some true
  is : PySem.W.isClsIn K c = true
  ty : PySem.W.typeIn K (.ref c) = some (.type "type")
theorem Cl.kit {c : Addr} {t : Value} {b : Bool} (h : Cl K c) (s : PySem.W.subIn K t (.ref c) = some b) : PySem.W.kitCls K t (.ref c) = some b := by
  have e : ((PySem.W.clsIn K c).isSome && PySem.W.typeIn K (.ref c) == some (.type "type")) = true := by
    have h2 : (PySem.W.clsIn K c).isSome = true := h.is
    rw [h2, h.ty]
    rfl
  show (if _ = true then _ else none) = _
  rw [if_pos e, s]
theorem Cl.exm {c : Addr} {t : Value} {b : Bool} (h : Cl K c) (s : PySem.W.subIn K t (.ref c) = some b) : PySem.W.exmOne K t (.ref c) = some b := by
  have e : (PySem.W.subIn K (.ref c) (.type "BaseException") == some true) = true := by rw [h.ex]; rfl
  show (if _ = true then _ else none) = _
  rw [if_pos e, h.kit s]
theorem exm3 {t : Value} {c1 c2 c3 : Addr} {b1 b2 b3 : Bool} (h1 : Cl K c1) (h2 : Cl K c2) (h3 : Cl K c3) (s1 : PySem.W.subIn K t (.ref c1) = some b1) (s2 : PySem.W.subIn K t (.ref c2) = some b2) (s3 : PySem.W.subIn K t (.ref c3) = some b3) :
    PySem.W.exmAny K t [.ref c1, .ref c2, .ref c3] = some (b1 || (b2 || (b3 || false))) := by
  unfold PySem.W.exmAny
  rw [h1.exm s1]
  unfold PySem.W.exmAny
  rw [h2.exm s2]
  unfold PySem.W.exmAny
  rw [h3.exm s3]
  rfl
theorem kit_self {c : Addr} : PySem.W.kitOne K (.ref c) (.ref c) = some true := if_pos (beq_self_eq_true _)
theorem kit_no {c d : Addr} (h : Cl K d) (s : PySem.W.subIn K (.ref c) (.ref d) = some false) (ss : PySem.W.subIn K (.ref d) (.ref d) = some true) : PySem.W.kitOne K (.ref c) (.ref d) = some false := by
  have ne : ((Value.ref c) == (Value.ref d)) = false := by
    cases e : ((Value.ref c) == (Value.ref d)) with
    | false => rfl
    | true =>
      have e2 : Value.ref c = Value.ref d := eq_of_beq e
      rw [e2, ss] at s
      cases s
  unfold PySem.W.kitOne
  rw [ne, if_neg (by decide), h.kit s]
end
/-- line, roster: the last written first in the def's order -/
def swap2 {α : Type} (us ws : List α) : List α := us ++ ws.reverse
end XK

namespace My
open PySem PySem.Spec PyProof.Rows L2 XK
def top (i : Nat) : Stmt := PySem.Challenge.pw_crewstep_k04_counts_and_turned_rings.main.body.getD i (.Pass ⟨0, 0, 0, 0⟩)
abbrev sBegin : Stmt := top 21
abbrev sMixed : Stmt := top 22
abbrev sNext : Stmt := top 23
abbrev sRoster : Stmt := top 24
abbrev sLine : Stmt := top 25
abbrev sCheckR : Stmt := top 9
abbrev sBadges : Stmt := top 10
abbrev sEntry : Stmt := top 11
abbrev sBadge : Stmt := top 12
abbrev sSize : Stmt := top 13
abbrev sCheckL : Stmt := top 16
abbrev sCheckG : Stmt := top 17
abbrev sCounts : Stmt := top 18
abbrev sTurned : Stmt := top 19
abbrev sCount : Stmt := top 26
abbrev sTR : Stmt := top 27
abbrev sWord : Stmt := top 28
abbrev sLaw : Stmt := top 29

local macro_rules | `(tactic| walk_at "rn") => `(tactic| (first
  | ((with_reducible refine' n_var ?hv ?_); (case hv => exact rfl))
  | with_reducible refine n_c ?_
  | with_reducible refine n_op ?_
  | with_reducible refine n_un ?_
  | with_reducible refine n_I0 ?_
  | with_reducible refine n_U ?_
  | ((with_reducible refine n_mod ?hc ?_); (case hc => first | decide | omega))
  | ((with_reducible refine n_mul ?hc ?_); (case hc => first | (left; omega) | (right; omega)))
  | ((with_reducible refine n_div ?hc ?_); (case hc => first | decide | omega))
  | ((with_reducible refine n_pow ?hc ?_); (case hc => first | decide | omega))
  | ((with_reducible refine n_eq ?hc ?_); (case hc => exact rfl))
  | ((with_reducible refine n_ne ?hc ?_); (case hc => exact rfl))
  | with_reducible refine n_nil ?_
  | with_reducible refine n_cons ?_
  | with_reducible refine n_tup ?_
  | with_reducible refine n_lst ?_
  | with_reducible refine n_cb ?_
  | with_reducible refine n_callS ?_
  | with_reducible refine n_callGK ?_
  | with_reducible refine n_if ?_
  | with_reducible refine n_test ?_
  | with_reducible refine n_tB ?_
  | with_reducible refine n_bl ?_
  | with_reducible refine n_not ?_
  | with_reducible refine n_and ?_
  | with_reducible refine n_or ?_
  | with_reducible refine n_andV ?_
  | with_reducible refine n_orV ?_
  | with_reducible refine n_notV ?_
  | with_reducible refine n_tdg ?_
  | with_reducible refine m_seq ?_
  | with_reducible refine m_asg ?_
  | with_reducible refine m_asgG ?_
  | with_reducible refine n_gnil ?_
  | with_reducible refine n_gcons ?_
  | with_reducible refine n_sl ?_
  | with_reducible refine n_nop ?_
  | with_reducible refine n_part ?_
  | with_reducible refine n_int ?_
  | with_reducible refine m_ret ?_
  | with_reducible refine m_drop ?_
  | with_reducible refine m_next ?_
  | with_reducible refine m_if ?_
  | with_reducible refine m_dput ?_
  | with_reducible refine m_gn ?_
  | with_reducible refine m_par ?_
  | with_reducible refine n_vw ?_
  | with_reducible refine m_for ?_
  | with_reducible refine n_rng1 ?_
  | with_reducible refine n_bm ?_
  | with_reducible refine n_bm0 ?_
  | with_reducible refine n_chain ?_
  | with_reducible refine m_rz ?_
  | with_reducible refine n_iet ?_
  | with_reducible refine n_ies ?_
  | with_reducible refine n_itup ?_
  | with_reducible refine n_ilist ?_
  | with_reducible refine n_istr ?_
  | with_reducible refine n_m1 ?_
  | with_reducible refine n_strA ?_
  | with_reducible refine n_lc ?_
  | with_reducible refine n_yes ?_
  | with_reducible refine n_xo ?_
  | (with_reducible refine iteT ?_)
  | (with_reducible refine iteF ?_)))
local macro_rules | `(tactic| walk_at "run") => `(tactic| repeat (walk_at "rn"))


/-! ### the draws -/
def dkv (c : Addr) (a l u : Int) : List (Key × V) := [(Sum.inr "cells", .ref c), (Sum.inr "at", .int a), (Sum.inr "left", .int l), (Sum.inr "used", .int u)]
section
variable {c : Addr} {a l u x : Int}
theorem k1 : ¬ ((Sum.inr ("cells" : Str) : Key) = Sum.inr ("at" : Str)) := by decide +kernel
theorem k2 : ¬ ((Sum.inr ("cells" : Str) : Key) = Sum.inr ("left" : Str)) := by decide +kernel
theorem k3 : ¬ ((Sum.inr ("cells" : Str) : Key) = Sum.inr ("used" : Str)) := by decide +kernel
theorem k4 : ¬ ((Sum.inr ("at" : Str) : Key) = Sum.inr ("left" : Str)) := by decide +kernel
theorem k5 : ¬ ((Sum.inr ("at" : Str) : Key) = Sum.inr ("used" : Str)) := by decide +kernel
theorem k6 : ¬ ((Sum.inr ("left" : Str) : Key) = Sum.inr ("used" : Str)) := by decide +kernel
theorem g_cells : valV (dkv c a l u) (Sum.inr "cells" : Key) = some (.ref c) := valV_pos rfl
theorem g_at : valV (dkv c a l u) (Sum.inr "at" : Key) = some (.int a) := (valV_neg k1).trans (valV_pos rfl)
theorem g_left : valV (dkv c a l u) (Sum.inr "left" : Key) = some (.int l) := (valV_neg k2).trans ((valV_neg k4).trans (valV_pos rfl))
theorem g_used : valV (dkv c a l u) (Sum.inr "used" : Key) = some (.int u) := (valV_neg k3).trans ((valV_neg k5).trans ((valV_neg k6).trans (valV_pos rfl)))
theorem put_map {kvs : List (Key × V)} {k : Key} {v w : V} (h : valV kvs k = some w) : putK kvs k v = kvs.map fun kv => if kv.1 = k then (kv.1, v) else kv := by
  unfold putK
  rw [valV_any, h]
  rfl
theorem p_at : putK (dkv c a l u) (Sum.inr "at" : Key) (.int x) = dkv c x l u := by
  rw [put_map g_at]
  simp only [dkv, List.map_cons, List.map_nil, if_neg k1, if_neg (Ne.symm k4), if_neg (Ne.symm k5), if_true]
theorem p_left : putK (dkv c a l u) (Sum.inr "left" : Key) (.int x) = dkv c a x u := by
  rw [put_map g_left]
  simp only [dkv, List.map_cons, List.map_nil, if_neg k2, if_neg k4, if_neg (Ne.symm k6), if_true]
theorem p_used : putK (dkv c a l u) (Sum.inr "used" : Key) (.int x) = dkv c a l x := by
  rw [put_map g_used]
  simp only [dkv, List.map_cons, List.map_nil, if_neg k3, if_neg k5, if_neg k6, if_true]
end

section
variable {P : Program} {w : World} {K : PySem.W.Frag} {mg : Str → Option Value} {base : Heap}
def spMixed : Sp := fun vs H Q _ => ∃ cell k : Int, vs = [.int cell, .int k] ∧ 0 ≤ k ∧ k < 2 ^ 40 ∧ ∀ v, Q (.int v) H
theorem scM : FnScope ["cell", "k", "mixed"] ["cell", "k"] (defScope sMixed) := ⟨rfl, rfl, rfl, by decide +kernel, rfl, by decide +kernel, by decide +kernel⟩
theorem ok_mixed {f : Addr} {fd : FuncData} (F : Fun K "_law_mixed" "_law_mixed" sMixed f fd) : FnG P w K mg base 1 f fd ["cell", "k"] spMixed := by
  refine def_ok F scM (fun vs H Q E h => ?_) (fun cdv A fr s H vs Q E c h => ?_)
  · obtain ⟨_, _, rfl, _⟩ := h
    rfl
  · obtain ⟨cell, k, rfl, k0, k1, go⟩ := h
    refine ⟨_, pss_cons (ps_set (i := 2) scM.nd rfl (Or.inl rfl) (pe_op op_mod (pe_op op_add (pe_op op_add (pe_op op_add (pe_op op_mod (pv 0) pe_int) (pe_op op_mul (pe_op op_mul pe_int (pv 1)) (pv 1))) (pe_op op_mul pe_int (pv 1))) pe_int) pe_int))
      (pss_cons (ps_set (i := 2) scM.nd rfl (Or.inl rfl) (pe_op op_mod (pe_op op_mul (pe_op op_mod (pe_op op_mul (pv 2) (pv 2)) pe_int) (pv 2)) pe_int))
      (pss_one (ps_ret (pe_op op_fdiv (pe_op op_mod (pe_op op_mul (pv 2) (pe_op op_add pe_int (pe_op op_mul pe_int (pe_op op_mod (pv 1) pe_int)))) pe_int) pe_int)))), ?_⟩
    walk_at "run"
    exact go _

/-- the state of the draws, at p, after at most m of them -/
def Dr (H : Hp) (p c : Addr) (m : Nat) : Prop := ∃ (ns : List Int) (a l u : Int), H p = some (.dK (dkv c a l u)) ∧ H c = some (.lst (ns.map V.int)) ∧ 0 < ns.length ∧ ns.length ≤ 64 ∧ 0 ≤ a ∧ a ≤ m ∧ 0 ≤ l ∧ 0 ≤ u ∧ u ≤ m
/-- all but p is kept -/
def Kp (p : Addr) (H H' : Hp) : Prop := ∀ b o, b ≠ p → H b = some o → H' b = some o
theorem Kp.refl (p : Addr) (H : Hp) : Kp p H H := fun _ _ _ h => h
theorem Kp.trans {p : Addr} {H H1 H2 : Hp} (x : Kp p H H1) (y : Kp p H1 H2) : Kp p H H2 := fun b o n h => y b o n (x b o n h)
theorem Kp.upd {p : Addr} {H : Hp} {o : HO} : Kp p H (upd H p o) := fun b u n h => by rw [upd_ne n]; exact h
theorem Kp.new {p q : Addr} {H H1 : Hp} {o : HO} (x : Kp p H H1) (h : H1 q = none) (hp : ∃ u, H1 p = some u) : Kp p H (L2.upd H1 q o) := fun b u n e => by
  rw [upd_ne (ne_of_none (x b u n e) h)]
  exact x b u n e
theorem Dr.at {H H' : Hp} {p c : Addr} {m : Nat} (x : Dr H p c m) (h1 : ∀ o, H p = some o → H' p = some o) (h2 : ∀ o, H c = some o → H' c = some o) : Dr H' p c m := by
  obtain ⟨ns, a, l, u, e1, e2, r⟩ := x
  exact ⟨ns, a, l, u, h1 _ e1, h2 _ e2, r⟩
theorem Dr.ne {H : Hp} {p c : Addr} {m : Nat} (x : Dr H p c m) : c ≠ p := by
  obtain ⟨ns, a, l, u, e1, e2, r⟩ := x
  exact ne_of e2 e1 (by intro z; cases z)
theorem Dr.there {H : Hp} {p c : Addr} {m : Nat} (x : Dr H p c m) : (∃ o, H p = some o) ∧ ∃ o, H c = some o := by
  obtain ⟨ns, a, l, u, e1, e2, r⟩ := x
  exact ⟨⟨_, e1⟩, ⟨_, e2⟩⟩
theorem Dr.upd {H : Hp} {p c q : Addr} {o : HO} {m : Nat} (x : Dr H p c m) (n1 : q ≠ p) (n2 : q ≠ c) : Dr (L2.upd H q o) p c m :=
  x.at (fun u h => by rw [upd_ne (Ne.symm n1)]; exact h) (fun u h => by rw [upd_ne (Ne.symm n2)]; exact h)
theorem Dr.new {H : Hp} {p c q : Addr} {o : HO} {m : Nat} (x : Dr H p c m) (n : H q = none) : Dr (L2.upd H q o) p c m := by
  obtain ⟨⟨o1, e1⟩, ⟨o2, e2⟩⟩ := x.there
  exact x.upd (Ne.symm (ne_of_none e1 n)) (Ne.symm (ne_of_none e2 n))
theorem Dr.mono {H : Hp} {p c : Addr} {m k : Nat} (x : Dr H p c m) (h : m ≤ k) : Dr H p c k := by
  obtain ⟨ns, a, l, u, e1, e2, e3, e4, e5, e6, e7, e8, e9⟩ := x
  exact ⟨ns, a, l, u, e1, e2, e3, e4, e5, by omega, e7, e8, by omega⟩
theorem Dr.dict {H : Hp} {p c : Addr} {m : Nat} (x : Dr H p c m) : H p = some (.dK (x.choose_spec.choose_spec.choose_spec.choose |> fun u => dkv c x.choose_spec.choose x.choose_spec.choose_spec.choose u)) := x.choose_spec.choose_spec.choose_spec.choose_spec.1
structure Gb (mg : Str → Option Value) : Prop where
  len : mg "len" = none
def spBegin (K : PySem.W.Frag) : Sp := fun vs H Q _ => ∃ (a : Addr) (ns : List Int), vs = [.ref a] ∧ SqL K H a (ns.map V.int) ∧ ns.length ≤ 63 ∧ ∀ p c H', H p = none → H c = none → Dr H' p c 0 → (∀ b o, H b = some o → H' b = some o) → Q (.ref p) H'
theorem scB : FnScope ["script"] ["script"] (defScope sBegin) := ⟨rfl, rfl, rfl, by decide +kernel, rfl, by decide +kernel, by decide +kernel⟩
theorem merge_dkv {c : Addr} {a l u : Int} : mergeK [] (dkv c a l u) = dkv c a l u := merge_nil (by
  show [(Sum.inr "cells" : Key), Sum.inr "at", Sum.inr "left", Sum.inr "used"].Nodup
  decide +kernel)
theorem ok_begin {f : Addr} {fd : FuncData} (F : Fun K "_law_begin" "_law_begin" sBegin f fd) : FnG P w K mg base 1 f fd ["script"] (spBegin K) := by
  refine def_ok F scB (fun vs H Q E h => ?_) (fun cdv A fr s H vs Q E c h => ?_)
  · obtain ⟨_, _, rfl, _⟩ := h
    rfl
  · obtain ⟨a, ns, rfl, hs, hn, go⟩ := h
    refine ⟨_, pss_one (ps_ret (pe_disp (pps_cons pe_str (pe_op op_catL (pv 0) (pe_lst (pa_cons pe_int pa_nil))) (pps_cons pe_str pe_int (pps_cons pe_str pe_int (pps_cons pe_str pe_int pps_nil)))) (by rfl) (by rfl) (fun z => by cases z) (by decide))), ?_⟩
    walk_at "run"
    intro p hp
    have e1 : ∀ b o, H b = some o → upd H p (.dK []) b = some o := fun b o h => by rw [upd_ne (ne_of_none h hp)]; exact h
    have hs1 : SqL K (upd H p (.dK [])) a (ns.map V.int) := Same.seq e1 hs
    refine ⟨_, rfl, by decide, fun l hl => ?_⟩
    have npl : p ≠ l := ne_of_none upd_same hl
    have e2 : ∀ b o, upd H p (.dK []) b = some o → upd (upd H p (.dK [])) l (.lst [V.int 0]) b = some o := fun b o h => by rw [upd_ne (ne_of_none h hl)]; exact h
    refine ⟨a, l, _, _, rfl, rfl, Same.seq e2 hs1, SqL.of upd_same, by rw [List.length_map]; exact Nat.le_trans (Nat.add_le_add_right hn 1) (by decide), fun q hq => ?_⟩
    have npq : p ≠ q := ne_of_none (e2 p _ upd_same) hq
    refine ⟨by rw [upd_ne npq]; exact e2 p _ upd_same, dkv q 0 0 0, rfl, (by show 4 ≤ 15; decide), ?_⟩
    rw [merge_dkv]
    have e3 : ∀ b o, H b = some o → b ≠ p ∧ upd (upd (upd (upd H p (.dK [])) l (.lst [V.int 0])) q (.lst (ns.map V.int ++ [V.int 0]))) p (.dK (dkv q 0 0 0)) b = some o := fun b o h => by
      have h1 : b ≠ p := ne_of_none h hp
      have h2 := e2 b o (e1 b o h)
      exact ⟨h1, by rw [upd_ne h1, upd_ne (ne_of_none h2 hq)]; exact h2⟩
    refine go p q _ hp (Same.free (fun b o h => e2 b o (e1 b o h)) hq) ⟨ns ++ [0], 0, 0, 0, upd_same, ?_, by simp, by simp; omega, by decide, by decide, by decide, by decide, by decide⟩ fun b o h => (e3 b o h).2
    rw [upd_ne (Ne.symm npq), upd_same, List.map_append]
    rfl
def spNext : Sp := fun vs H Q _ => ∃ (p cc : Addr) (b : Int) (m : Nat), vs = [.ref p, .int b] ∧ Dr H p cc m ∧ m ≤ 1000000000 ∧ 0 < b ∧ b < 1073741824 ∧ ∀ v H', 0 ≤ v → v < b → Dr H' p cc (m + 1) → Kp p H H' → Q (.int v) H'
theorem scN : FnScope ["draw", "bound", "found", "cells", "cell"] ["draw", "bound"] (defScope sNext) := ⟨rfl, rfl, rfl, by decide +kernel, rfl, by decide +kernel, by decide +kernel⟩
theorem ok_next {f fM : Addr} {fd fdM : FuncData} (F : Fun K "_law_next" "_law_next" sNext f fd) (G : Gb mg) (FM : Fun K "_law_mixed" "_law_mixed" sMixed fM fdM) (mM : mg "_law_mixed" = some (.ref fM)) (bM : Binds K fdM ["cell", "k"] []) :
    FnG P w K mg base 2 f fd ["draw", "bound"] spNext := by
  have GM : FnG P w K mg base 1 fM fdM ["cell", "k"] spMixed := ok_mixed FM
  refine def_ok F scN (fun vs H Q E h => ?_) (fun cdv A fr s H vs Q E c h => ?_)
  · obtain ⟨_, _, _, _, rfl, _⟩ := h
    rfl
  · obtain ⟨p, cc, b, m, rfl, ⟨ns, a, l, u, hp, hc, n0, n1, a0, a1, l0, u0, u1⟩, hm, b0, b1, go⟩ := h
    have hu := hu_of c.room
    have npc : cc ≠ p := ne_of hc hp (by intro z; cases z)
    refine ⟨_, pss_cons (ps_if (pt_cmpR op_gt (pe_dget hu (pv 0) pe_str (fun _ _ => rfl)) pe_int (nomark _))
        (pss_cons (ps_set (i := 2) scN.nd rfl (Or.inl rfl) (pe_op op_mod (pe_dget hu (pv 0) pe_str (fun _ _ => rfl)) (pv 1)))
        (pss_cons (ps_dput hu (pv 0) pe_str (pe_op op_fdiv (pe_dget hu (pv 0) pe_str (fun _ _ => rfl)) (pv 1)) rfl)
        (pss_one (ps_ret (pv 2))))) pss_nil)
      (pss_cons (ps_set (i := 3) scN.nd rfl (Or.inl rfl) (pe_dget hu (pv 0) pe_str (fun _ _ => rfl)))
      (pss_cons (ps_set (i := 4) scN.nd rfl (Or.inl rfl) (pe_ix ix_list (pv 3) (pe_op op_mod (pe_dget hu (pv 0) pe_str (fun _ _ => rfl)) (pe_callB call_len_seq (by rfl) G.len PySem.boot_len (pa_cons (pv 3) pa_nil))) (fun _ _ => rfl)))
      (pss_cons (ps_dput hu (pv 0) pe_str (pe_op op_add (pe_dget hu (pv 0) pe_str (fun _ _ => rfl)) pe_int) rfl)
      (pss_cons (ps_if (PW.pt (pw_and (pt_cmpR op_ge (pv 4) (pe_op op_pow pe_int pe_int) (nomark _)) (pw_and1 (pt_cmpR op_le (pe_dget hu (pv 0) pe_str (fun _ _ => rfl)) (pe_callB call_len_seq (by rfl) G.len PySem.boot_len (pa_cons (pv 3) pa_nil)) (nomark _)))))
        (pss_cons (ps_dput hu (pv 0) pe_str (pe_op op_fdiv (pv 4) (pv 1)) rfl) (pss_one (ps_ret (pe_op op_mod (pv 4) (pv 1))))) pss_nil)
      (pss_cons (ps_dput hu (pv 0) pe_str (pe_op op_add (pe_dget hu (pv 0) pe_str (fun _ _ => rfl)) pe_int) rfl)
      (pss_one (ps_ret (pe_op op_mod (pe_g GM (c.mono (by decide)) rfl mM FM.kp bM quiets (pa_cons (pe_g GM (c.mono (by decide)) rfl mM FM.kp bM quiets (pa_cons (pv 4) (pa_cons (pe_dget hu (pv 0) pe_str (fun _ _ => rfl)) pa_nil))) (pa_cons (pe_dget hu (pv 0) pe_str (fun _ _ => rfl)) pa_nil))) (pv 1))))))))), ?_⟩
    walk_at "run"
    refine n_dg hp g_left ?_
    walk_at "run"
    refine n_ite (fun hl => ?_) (fun hl => ?_)
    · walk_at "run"
      refine n_dg hp g_left ?_
      walk_at "run"
      refine n_dg hp g_left ?_
      walk_at "run"
      refine n_dp hp p_left (by show 4 ≤ 1000; decide) ?_
      walk_at "run"
      refine go _ _ (Int.emod_nonneg _ (by omega)) (Int.emod_lt_of_pos _ b0) ⟨ns, a, l / b, u, upd_same, by rw [upd_ne npc]; exact hc, n0, n1, a0, by omega, Int.ediv_nonneg l0 (by omega), u0, by omega⟩ Kp.upd
    · walk_at "run"
      refine n_dg hp g_cells ?_
      walk_at "run"
      refine n_dg hp g_at ?_
      walk_at "run"
      refine ⟨_, _, rfl, Or.inl (SqL.of hc), ?_⟩
      have hlen : 0 < ((ns.map V.int).length : Int) := by rw [List.length_map]; omega
      walk_at "run"
      obtain ⟨cell, hcell⟩ := at_ints (ns := ns) (Int.emod_nonneg a (by omega)) (Int.emod_lt_of_pos a hlen)
      refine ⟨_, _, _, _, rfl, rfl, SqL.of hc, hcell, ?_⟩
      walk_at "run"
      refine n_dg hp g_at ?_
      walk_at "run"
      refine n_dp hp p_at (by show 4 ≤ 1000; decide) ?_
      have hc1 : ∀ o, upd H p o cc = some (.lst (ns.map V.int)) := fun o => by rw [upd_ne npc]; exact hc
      walk_at "run"
      refine n_ite (fun hg => ?_) (fun hg => ?_)
      · walk_at "run"
        refine n_dg upd_same g_at ?_
        walk_at "run"
        refine ⟨_, _, rfl, Or.inl (SqL.of (hc1 _)), ?_⟩
        walk_at "run"
        refine n_ite (fun hh => ?_) (fun hh => ?_)
        · walk_at "run"
          refine n_dp upd_same p_left (by show 4 ≤ 1000; decide) ?_
          walk_at "run"
          have hc0 : 0 ≤ cell := Int.le_trans (by decide : (0 : Int) ≤ 10 ^ (Int.toNat 18)) (d_true hg)
          exact go _ _ (Int.emod_nonneg _ (by omega)) (Int.emod_lt_of_pos _ b0) ⟨ns, a + 1, cell / b, u, upd_same, by rw [upd_ne npc]; exact hc1 _, n0, n1, by omega, by omega, Int.ediv_nonneg hc0 (by omega), u0, by omega⟩ (Kp.upd.trans Kp.upd)
        · walk_at "run"
          refine n_dg upd_same g_used ?_
          walk_at "run"
          refine n_dp upd_same p_used (by show 4 ≤ 1000; decide) ?_
          walk_at "run"
          refine n_dg upd_same g_at ?_
          walk_at "run"
          refine ⟨_, _, rfl, by omega, by omega, fun v1 => ?_⟩
          walk_at "run"
          refine n_dg upd_same g_used ?_
          walk_at "run"
          refine ⟨_, _, rfl, by omega, by omega, fun v2 => ?_⟩
          walk_at "run"
          exact go _ _ (Int.emod_nonneg _ (by omega)) (Int.emod_lt_of_pos _ b0) ⟨ns, a + 1, l, u + 1, upd_same, by rw [upd_ne npc]; exact hc1 _, n0, n1, by omega, by omega, l0, by omega, by omega⟩ (Kp.upd.trans Kp.upd)
      · walk_at "run"
        refine n_dg upd_same g_used ?_
        walk_at "run"
        refine n_dp upd_same p_used (by show 4 ≤ 1000; decide) ?_
        walk_at "run"
        refine n_dg upd_same g_at ?_
        walk_at "run"
        refine ⟨_, _, rfl, by omega, by omega, fun v1 => ?_⟩
        walk_at "run"
        refine n_dg upd_same g_used ?_
        walk_at "run"
        refine ⟨_, _, rfl, by omega, by omega, fun v2 => ?_⟩
        walk_at "run"
        exact go _ _ (Int.emod_nonneg _ (by omega)) (Int.emod_lt_of_pos _ b0) ⟨ns, a + 1, l, u + 1, upd_same, by rw [upd_ne npc]; exact hc1 _, n0, n1, by omega, by omega, l0, by omega, by omega⟩ (Kp.upd.trans Kp.upd)
end

/-! ### a drawn roster -/
def isR (H : Hp) (q : Addr) (r : Nat × Int) : Prop := H q = some (.tup [.str ⟨#[r.1]⟩, .int r.2])
/-- at a: the roster rs -/
def Ro (H : Hp) (a : Addr) (rs : List (Nat × Int)) : Prop := ∃ ps : List Addr, H a = some (.tup (ps.map V.ref)) ∧ Paired (isR H) ps rs
def okB (r : Nat × Int) : Prop := 97 ≤ r.1 ∧ r.1 ≤ 122 ∧ 0 ≤ r.2 ∧ r.2 ≤ 5
def okR (rs : List (Nat × Int)) : Prop := 1 ≤ rs.length ∧ rs.length ≤ 4 ∧ rs.Pairwise (fun a b => a.1 < b.1) ∧ ∀ r ∈ rs, okB r
theorem paired_map {α β : Type} {F G : α → β → Prop} {l₁ : List α} {l₂ : List β} (h : Paired F l₁ l₂) (f : ∀ a b, F a b → G a b) : Paired G l₁ l₂ := Paired.mapP h f
theorem paired_snoc {α β : Type} {F : α → β → Prop} : ∀ {l₁ : List α} {l₂ : List β} {a : α} {b : β}, Paired F l₁ l₂ → F a b → Paired F (l₁ ++ [a]) (l₂ ++ [b])
  | _, _, _, _, .nil, h => .cons h .nil
  | _, _, _, _, .cons r t, h => .cons r (paired_snoc t h)
theorem isR_keep {H H' : Hp} {p : Addr} (np : ∀ xs, H p ≠ some (.tup xs)) (k : Kp p H H') {q : Addr} {r : Nat × Int} (h : isR H q r) : isR H' q r := k q _ (fun z => np _ (z ▸ h)) h
theorem Ro.keep {H H' : Hp} {a : Addr} {rs : List (Nat × Int)} (x : Ro H a rs) (k : ∀ b xs, H b = some (.tup xs) → H' b = some (.tup xs)) : Ro H' a rs := by
  obtain ⟨ps, h, r⟩ := x
  exact ⟨ps, k _ _ h, paired_map r fun q r h => k _ _ h⟩
/-- what a Kp of a dict keeps -/
theorem Kp.tups {p : Addr} {H H' : Hp} {kvs : List (Key × V)} (k : Kp p H H') (hp : H p = some (.dK kvs)) : ∀ b xs, H b = some (.tup xs) → H' b = some (.tup xs) := fun b xs h =>
  k b _ (fun z => by rw [z, hp] at h; cases h) h
theorem Dr.tups {H H' : Hp} {p c : Addr} {m : Nat} (x : Dr H p c m) (k : Kp p H H') : ∀ b xs, H b = some (.tup xs) → H' b = some (.tup xs) := by
  obtain ⟨ns, a, l, u, e, _⟩ := x
  exact Kp.tups k e
structure Gr (mg : Str → Option Value) (fN : Addr) : Prop where
  nxt : mg "_law_next" = some (.ref fN)
  range : mg "range" = none
  tuple : mg "tuple" = none
section
variable {P : Program} {w : World} {K : PySem.W.Frag} {mg : Str → Option Value} {base : Heap}
def spRoster : Sp := fun vs H Q _ => ∃ (p cc : Addr) (m : Nat), vs = [.ref p] ∧ Dr H p cc m ∧ m ≤ 999999000 ∧ ∀ a rs H', Ro H' a rs → okR rs → H a = none → Dr H' p cc (m + 10) → Kp p H H' → Q (.ref a) H'
theorem scR : FnScope ["draw", "letters", "found", "spot", "k"] ["draw"] (defScope sRoster) := ⟨rfl, rfl, rfl, by decide +kernel, rfl, by decide +kernel, by decide +kernel⟩
def abc : Str := "abcdefghijklmnopqrstuvwxyz"
theorem abc_at : ∀ i : Nat, i < 26 → abc.cps[i]? = some (97 + i) := by decide +kernel
theorem sizes_at : ∀ i : Nat, i < 8 → ∃ k : Int, ([0, 1, 2, 2, 3, 3, 4, 5] : List Int)[i]? = some k ∧ 0 ≤ k ∧ k ≤ 5
  | 0, _ => ⟨0, rfl, by decide⟩
  | 1, _ => ⟨1, rfl, by decide⟩
  | 2, _ => ⟨2, rfl, by decide⟩
  | 3, _ => ⟨2, rfl, by decide⟩
  | 4, _ => ⟨3, rfl, by decide⟩
  | 5, _ => ⟨3, rfl, by decide⟩
  | 6, _ => ⟨4, rfl, by decide⟩
  | 7, _ => ⟨5, rfl, by decide⟩
  | n + 8, h => absurd h (by omega)
/-- the turns of the roster's loop -/
def RoT (H0 : Hp) (p cc l : Addr) (m : Nat) (i : Nat) (s : Int) (rs : List (Nat × Int)) (H : Hp) : Prop :=
  (∃ ps : List Addr, H l = some (.lst (ps.map V.ref)) ∧ Paired (isR H) ps rs) ∧ rs.length = i ∧ 0 ≤ s ∧ s ≤ 17 + 2 * i ∧ rs.Pairwise (fun a b => a.1 < b.1) ∧ (∀ r ∈ rs, okB r ∧ (r.1 : Int) < 97 + s) ∧ Dr H p cc (m + 2 + 2 * i) ∧ Kp p H0 H
theorem ok_roster {f fN : Addr} {fd fdN : FuncData} (F : Fun K "_law_roster" "_law_roster" sRoster f fd) (G : Gr mg fN) (N2 : FnG P w K mg base 2 fN fdN ["draw", "bound"] spNext) (kN : PySem.W.keepIn K (.ref fN) = true) (bN : Binds K fdN ["draw", "bound"] []) :
    FnG P w K mg base 3 f fd ["draw"] spRoster := by
  refine def_ok F scR (fun vs H Q E h => ?_) (fun cdv A fr s H vs Q E c h => ?_)
  · obtain ⟨_, _, _, rfl, _⟩ := h
    rfl
  · obtain ⟨p, cc, m, rfl, hD, hm, go⟩ := h
    have c2 : Calm 2 _ := c.mono (by decide)
    refine ⟨_, pss_cons (ps_set (i := 1) scR.nd rfl (Or.inl rfl) pe_str)
      (pss_cons (ps_par (i := 2) (j := 3) rfl scR.nd rfl rfl (by decide) rfl rfl (pa_cons (pe_lst pa_nil) (pa_cons (pe_g N2 c2 rfl G.nxt kN bN quiets (pa_cons (pv 0) (pa_cons pe_int pa_nil))) pa_nil)) (by rfl))
      (pss_cons (ps_for (passes_of rfl) rfl (pi_range1 rfl G.range (pa_cons (pe_op op_add pe_int (pe_g N2 c2 rfl G.nxt kN bN quiets (pa_cons (pv 0) (pa_cons pe_int pa_nil)))) pa_nil)) (pg_name (i := 4) scR.nd rfl (Or.inl rfl))
        (pss_cons (ps_expr (pe_bm PySem.F.plainAttrs_list PySem.F.slot_list_append PySem.F.type_list_append mt_append (pv 2)
            (pa_cons (pe_tup (pa_cons (pe_item_str (pv 1) (pv 3) (fun _ _ => rfl)) (pa_cons (pe_ix ix_list (pe_lst (pa_cons pe_int (pa_cons pe_int (pa_cons pe_int (pa_cons pe_int (pa_cons pe_int (pa_cons pe_int (pa_cons pe_int (pa_cons pe_int pa_nil)))))))))
              (pe_g N2 c2 rfl G.nxt kN bN quiets (pa_cons (pv 0) (pa_cons pe_int pa_nil))) (fun _ _ => rfl)) pa_nil))) pa_nil)))
        (pss_one (ps_set (i := 3) scR.nd rfl (Or.inl rfl) (pe_op op_add (pe_op op_add (pv 3) pe_int) (pe_g N2 c2 rfl G.nxt kN bN quiets (pa_cons (pv 0) (pa_cons pe_int pa_nil))))))))
      (pss_one (ps_ret (pe_callTy call_tuple_of (by rfl) G.tuple (by decide +kernel) (pa_cons (pv 2) pa_nil)))))), ?_⟩
    walk_at "run"
    refine ⟨by decide, fun l hl => ?_⟩
    walk_at "run"
    have kl : ∀ {o}, Kp p H (upd H l o) := fun {o} b u _ h => by rw [upd_ne (ne_of_none h hl)]; exact h
    refine ⟨p, cc, 18, m, rfl, hD.new hl, by omega, by decide, by decide, fun s0 H1 s0a s0b D1 k1 => ?_⟩
    have npl : l ≠ p := by
      obtain ⟨⟨o1, e1⟩, _⟩ := hD.there
      exact Ne.symm (ne_of_none e1 hl)
    have ncl : l ≠ cc := by
      obtain ⟨_, ⟨o1, e1⟩⟩ := hD.there
      exact Ne.symm (ne_of_none e1 hl)
    walk_at "run"
    refine ⟨p, cc, 4, m + 1, rfl, D1, by omega, by decide, by decide, fun n H2 na nb D2 k2 => ?_⟩
    walk_at "run"
    have e2 : (1 + n).toNat = n.toNat + 1 := by omega
    refine ⟨_, rfl, by omega, by omega, for_range (n := (1 + n).toNat) (fun i σ H' => ∃ (s : Int) (rs : List (Nat × Int)) (kk : Option V), σ = [some (.ref p), some (.str abc), some (.ref l), some (.int s), kk] ∧ RoT H p cc l m i s rs H')
      ⟨s0, [], none, rfl, ⟨[], k2 l _ npl (k1 l _ npl upd_same), .nil⟩, rfl, s0a, by omega, .nil, (fun r h => nomatch h), D2, (kl.trans k1).trans k2⟩ ?_ ?_⟩
    · rintro i σ H3 hi ⟨s, rs, kk, rfl, ⟨ps, h3, hr⟩, hlen, s1, s2, hpw, hall, D3, k3⟩
      walk_at "run"
      refine n_lty h3 ?_
      walk_at "run"
      refine ⟨_, s, 97 + s.toNat, rfl, rfl, s1, by omega, by show s < ((26 : Nat) : Int); omega, abc_at _ (by omega), ?_⟩
      walk_at "run"
      refine ⟨by decide, fun q hq => ?_⟩
      walk_at "run"
      refine ⟨p, cc, 8, m + 2 + 2 * i, rfl, D3.new hq, by omega, by decide, by decide, fun j H4 ja jb D4 k4 => ?_⟩
      have npq : q ≠ p := Ne.symm (ne_of_none D3.there.1.choose_spec hq)
      have nlq : l ≠ q := ne_of_none h3 hq
      obtain ⟨sz, esz, z0, z1⟩ := sizes_at j.toNat (by omega)
      walk_at "run"
      have hq4 : H4 q = some (.lst (([0, 1, 2, 2, 3, 3, 4, 5] : List Int).map V.int)) := k4 q _ npq upd_same
      refine n_ixL (SqL.of hq4) (show atI _ j = some (V.int sz) from ?_) ?_
      · obtain ⟨jn, rfl⟩ := Int.eq_ofNat_of_zero_le ja
        refine atI_nat ?_
        rw [List.getElem?_map, show ([0, 1, 2, 2, 3, 3, 4, 5] : List Int)[jn]? = some sz from esz]
        rfl
      walk_at "run"
      refine ⟨(by show 2 ≤ sizeLine; decide), fun t ht => ?_⟩
      walk_at "run"
      have hl4 : H4 l = some (.lst (ps.map V.ref)) := k4 l _ npl (by rw [upd_ne nlq]; exact h3)
      have nlt : l ≠ t := ne_of_none hl4 ht
      have plen : ps.length = i := by rw [← hlen]; exact Paired.length hr
      refine n_app (xs := ps.map V.ref) (by rw [upd_ne nlt]; exact hl4) (by rw [List.length_map]; omega) ?_
      walk_at "run"
      have npt : t ≠ p := Ne.symm (ne_of_none D4.there.1.choose_spec ht)
      have nct : t ≠ cc := Ne.symm (ne_of_none D4.there.2.choose_spec ht)
      refine ⟨p, cc, 2, m + 2 + 2 * i + 1, rfl, (D4.new ht).upd npl ncl, by omega, by decide, by decide, fun g H5 ga gb D5 k5 => ?_⟩
      walk_at "run"
      have k34 : ∀ b xs, H3 b = some (.tup xs) → H5 b = some (.tup xs) := fun b xs h => by
        have h1 : H4 b = some (.tup xs) := k4.tups (by rw [upd_ne (Ne.symm npq)]; exact D3.dict) b xs (by rw [upd_ne (ne_of_none h hq)]; exact h)
        exact (D4.new ht |>.upd npl ncl).tups k5 b xs (by rw [upd_ne (ne_of h1 hl4 (by intro z; cases z)), upd_ne (ne_of_none h1 ht)]; exact h1)
      have h5l : H5 l = some (.lst ((ps ++ [t]).map V.ref)) := k5 l _ npl (by rw [upd_same, List.map_append]; rfl)
      have h5t : H5 t = some (.tup [.str ⟨#[97 + s.toNat]⟩, .int sz]) := k5 t _ npt (by rw [upd_ne (Ne.symm nlt), upd_same])
      refine ⟨s + 1 + g, rs ++ [(97 + s.toNat, sz)], _, rfl, ⟨ps ++ [t], h5l, paired_snoc (paired_map hr fun a b h => k34 _ _ h) h5t⟩, by rw [List.length_append, hlen]; rfl, by omega, by omega, ?_, fun r hm => ?_, D5.mono (by omega), ?_⟩
      · refine List.pairwise_append.mpr ⟨hpw, List.pairwise_singleton _ _, fun a ha b hb => ?_⟩
        obtain rfl := List.mem_singleton.mp hb
        have := (hall a ha).2
        show a.1 < 97 + s.toNat
        omega
      · rcases List.mem_append.mp hm with hm | hm
        · exact ⟨(hall r hm).1, by have := (hall r hm).2; omega⟩
        · obtain rfl := List.mem_singleton.mp hm
          exact ⟨⟨by show 97 ≤ 97 + s.toNat; omega, by show 97 + s.toNat ≤ 122; omega, z0, z1⟩, by show ((97 + s.toNat : Nat) : Int) < 97 + (s + 1 + g); omega⟩
      · have e1 : Kp p H3 H4 := fun b o nb h => k4 b o nb (by rw [upd_ne (ne_of_none h hq)]; exact h)
        intro b o nb h
        have hb : b ≠ l := ne_of_none h hl
        have h4 := e1 b o nb (k3 b o nb h)
        exact k5 b o nb (by rw [upd_ne hb, upd_ne (ne_of_none h4 ht)]; exact h4)
    · rintro σ H3 ⟨s, rs, kk, rfl, ⟨ps, h3, hr⟩, hlen, s1, s2, hpw, hall, D3, k3⟩
      walk_at "run"
      refine ⟨l, _, rfl, Or.inl ⟨SqL.of h3, fun a ha => ?_⟩⟩
      have hla : l ≠ a := ne_of_none h3 ha
      refine go a rs _ ⟨ps, upd_same, paired_map hr fun x y h => by
        show upd H3 a _ x = _
        rw [upd_ne (ne_of_none h ha)]
        exact h⟩ ⟨by omega, by omega, hpw, fun r hm => (hall r hm).1⟩ ?_ ((D3.new ha).mono (by omega)) ?_
      · cases e : H a with
        | none => rfl
        | some o =>
          by_cases hap : a = p
          · rw [hap, D3.dict] at ha
            cases ha
          · rw [k3 a o hap e] at ha
            cases ha
      · intro b o nb h
        have h1 := k3 b o nb h
        rw [upd_ne (ne_of_none h1 ha)]
        exact h1
end

/-! ### a drawn line -/
def inR (rs : List (Nat × Int)) (z : Str) : Prop := ∀ c ∈ z.cps.toList, c ∈ rs.map (·.1)
structure Gl2 (mg : Str → Option Value) (fN : Addr) : Prop where
  nxt : mg "_law_next" = some (.ref fN)
  range : mg "range" = none
  len : mg "len" = none
  max : mg "max" = none
section
variable {P : Program} {w : World} {K : PySem.W.Frag} {mg : Str → Option Value} {base : Heap}
theorem Ro.at {H : Hp} {a : Addr} {rs : List (Nat × Int)} {n : Nat} {ps : List Addr} (hr : Paired (isR H) ps rs) (h : n < rs.length) : ∃ q, ps[n]? = some q ∧ isR H q rs[n] := by
  induction hr generalizing n with
  | nil => exact absurd h (Nat.not_lt_zero _)
  | cons r t ih =>
    cases n with
    | zero => exact ⟨_, rfl, r⟩
    | succ n => exact ih (by simpa using h)
def spLine : Sp := fun vs H Q _ => ∃ (p cc a : Addr) (rs : List (Nat × Int)) (m k : Nat), vs = [.ref p, .ref a, .int (k : Int)] ∧ Dr H p cc m ∧ m ≤ 999999000 ∧ Ro H a rs ∧ okR rs ∧ k ≤ 12 ∧
  ∀ z H', inR rs z → z.length ≤ k → Dr H' p cc (m + 60) → Kp p H H' → Q (.str z) H'
theorem scL2 : FnScope ["draw", "rules", "most", "found", "k", "mark", "size", "at", "part"] ["draw", "rules", "most"] (defScope sLine) := ⟨rfl, rfl, rfl, by decide +kernel, rfl, by decide +kernel, by decide +kernel⟩
theorem ok_line {f fN : Addr} {fd fdN : FuncData} (F : Fun K "_law_line" "_law_line" sLine f fd) (G : Gl2 mg fN) (N2 : FnG P w K mg base 2 fN fdN ["draw", "bound"] spNext) (kN : PySem.W.keepIn K (.ref fN) = true) (bN : Binds K fdN ["draw", "bound"] []) :
    FnG P w K mg base 3 f fd ["draw", "rules", "most"] spLine := by
  refine def_ok F scL2 (fun vs H Q E h => ?_) (fun cdv A fr s H vs Q E c h => ?_)
  · obtain ⟨_, _, _, _, _, _, rfl, _⟩ := h
    rfl
  · obtain ⟨p, cc, a, rs, m, k, rfl, hD, hm, hR, hok, hk, go⟩ := h
    have c2 : Calm 2 _ := c.mono (by decide)
    refine ⟨_, pss_cons (ps_set (i := 3) scL2.nd rfl (Or.inl rfl) pe_str)
      (pss_cons (ps_for (passes_of rfl) rfl (pi_range1 rfl G.range (pa_cons (pe_g N2 c2 rfl G.nxt kN bN quiets (pa_cons (pv 0) (pa_cons (pe_op op_add (pv 2) pe_int) pa_nil))) pa_nil)) (pg_name (i := 4) scL2.nd rfl (Or.inl rfl))
        (pss_cons (ps_asg (pe_ix ix_tup (pv 1) (pe_g N2 c2 rfl G.nxt kN bN quiets (pa_cons (pv 0) (pa_cons (pe_callB call_len_seq (by rfl) G.len PySem.boot_len (pa_cons (pv 1) pa_nil)) pa_nil))) (fun _ _ => rfl)) (pg_tup rfl (pgs_cons (pg_name (i := 5) scL2.nd rfl (Or.inl rfl)) (pgs_cons (pg_name (i := 6) scL2.nd rfl (Or.inl rfl)) pgs_nil))))
        (Evl.pss_cut (ps_set (i := 7) scL2.nd rfl (Or.inl rfl) (pe_ifExp (pt_cmpR op_eq (pe_g N2 c2 rfl G.nxt kN bN quiets (pa_cons (pv 0) (pa_cons pe_int pa_nil))) pe_int (nomark _)) (pe_callB call_len_str (by rfl) G.len PySem.boot_len (pa_cons (pv 3) pa_nil))
            (pe_g N2 c2 rfl G.nxt kN bN quiets (pa_cons (pv 0) (pa_cons (pe_op op_add (pe_callB call_len_str (by rfl) G.len PySem.boot_len (pa_cons (pv 3) pa_nil)) pe_int) pa_nil)))))
        (Evl.pss_cut (ps_set (i := 8) scL2.nd rfl (Or.inl rfl) (pe_ifExp (pt_cmpR op_gt (pe_g N2 c2 rfl G.nxt kN bN quiets (pa_cons (pv 0) (pa_cons pe_int pa_nil))) pe_int (nomark _)) (pe_op op_mulS (pv 5) (pe_callB (call_max2 rfl) (by rfl) G.max (by decide +kernel) (pa_cons pe_int (pa_cons (pv 6) pa_nil)))) (pv 5)))
        (pss_one (ps_if (pt_cmpR op_le (pe_op op_add (pe_callB call_len_str (by rfl) G.len PySem.boot_len (pa_cons (pv 3) pa_nil)) (pe_callB call_len_str (by rfl) G.len PySem.boot_len (pa_cons (pv 8) pa_nil))) (pv 2) (nomark _))
          (pss_one (ps_set (i := 3) scL2.nd rfl (Or.inl rfl) (pe_op op_add_str (pe_op op_add_str (pe_slice sl_str (pv 3) po_none (po_some (pv 7))) (pv 8)) (pe_slice sl_str (pv 3) (po_some (pv 7)) po_none)))) pss_nil))))))
      (pss_one (ps_ret (pv 3)))), ?_⟩
    walk_at "run"
    refine ⟨p, cc, _, m, rfl, hD, by omega, by omega, by omega, fun n H1 na nb D1 k1 => ?_⟩
    walk_at "run"
    have hR1 : Ro H1 a rs := hR.keep (hD.tups k1)
    refine ⟨_, rfl, by omega, by omega, for_range (n := n.toNat) (fun i σ H' => ∃ (z : Str) (x4 x5 x6 x7 x8 : Option V), σ = [some (.ref p), some (.ref a), some (.int (k : Int)), some (.str z), x4, x5, x6, x7, x8] ∧ inR rs z ∧ z.length ≤ k ∧ Dr H' p cc (m + 1 + 4 * i) ∧ Kp p H H')
      ⟨_, _, _, _, _, _, rfl, (fun c h => nomatch h), Nat.zero_le _, D1, k1⟩ ?_ ?_⟩
    · rintro i σ H3 hi ⟨z, x4, x5, x6, x7, x8, rfl, hz, hzl, D3, k3⟩
      have hR3 := hR.keep (hD.tups k3)
      obtain ⟨ps, hps, hr⟩ := hR3
      have plen : ps.length = rs.length := Paired.length hr
      have hz16 : z.length ≤ 100000 := by omega
      walk_at "run"
      refine ⟨_, _, rfl, Or.inr (SqT.of hps), ?_⟩
      walk_at "run"
      refine ⟨p, cc, _, _, rfl, D3, by omega, by rw [List.length_map, plen]; have := hok.1; omega, by rw [List.length_map, plen]; have := hok.2.1; omega, fun j H4 ja jb D4 k4 => ?_⟩
      rw [List.length_map, plen] at jb
      obtain ⟨jn, rfl⟩ := Int.eq_ofNat_of_zero_le ja
      have jlt : jn < rs.length := by omega
      obtain ⟨q, eq, hq⟩ := Ro.at (a := a) hr jlt
      have kt4 := D3.tups k4
      have hq4 : H4 q = some (.tup [.str ⟨#[rs[jn].1]⟩, .int rs[jn].2]) := kt4 _ _ hq
      have hb := hok.2.2.2 _ (List.getElem_mem jlt)
      refine n_ixT (SqT.of (kt4 _ _ hps)) (atI_nat (v := V.ref q) (by rw [List.getElem?_map, eq]; rfl)) ?_
      refine n_gtup (SqT.of hq4) rfl ?_
      walk_at "run"
      -- at = ..
      refine ⟨fun σ' H' => ∃ (t : Int), σ' = [some (.ref p), some (.ref a), some (.int (k : Int)), some (.str z), some (.int (0 + (i : Int))), some (.str ⟨#[rs[jn].1]⟩), some (.int rs[jn].2), some (.int t), x8] ∧ 0 ≤ t ∧ t ≤ z.length ∧ Dr H' p cc (m + 1 + 4 * i + 3) ∧ Kp p H H', ?_, ?_⟩
      · walk_at "run"
        refine ⟨p, cc, _, _, rfl, D4, by omega, by decide, by decide, fun v H5 va vb D5 k5 => ?_⟩
        walk_at "run"
        refine n_ite (fun hv => ?_) (fun hv => ?_)
        · walk_at "run"
          refine ⟨z, rfl, Nat.le_trans hz16 (by decide), ?_⟩
          walk_at "run"
          exact ⟨_, rfl, by omega, by omega, D5.mono (by omega), (k3.trans k4).trans k5⟩
        · walk_at "run"
          refine ⟨z, rfl, Nat.le_trans hz16 (by decide), ?_⟩
          walk_at "run"
          refine ⟨p, cc, _, _, rfl, D5, by omega, by omega, by omega, fun v2 H6 va2 vb2 D6 k6 => ?_⟩
          walk_at "run"
          exact ⟨_, rfl, va2, by omega, D6.mono (by omega), ((k3.trans k4).trans k5).trans k6⟩
      rintro σ' H6 ⟨t, rfl, t0, t1, D6, k6⟩
      -- part = ..
      refine ⟨fun σ' H' => ∃ (y : Str), σ' = [some (.ref p), some (.ref a), some (.int (k : Int)), some (.str z), some (.int (0 + (i : Int))), some (.str ⟨#[rs[jn].1]⟩), some (.int rs[jn].2), some (.int t), some (.str y)] ∧ (∀ c ∈ y.cps.toList, c = rs[jn].1) ∧ y.length ≤ 5 ∧ Dr H' p cc (m + 1 + 4 * i + 4) ∧ Kp p H H', ?_, ?_⟩
      · walk_at "run"
        refine ⟨p, cc, _, _, rfl, D6, by omega, by decide, by decide, fun v H7 va vb D7 k7 => ?_⟩
        walk_at "run"
        refine n_ite (fun hv => ?_) (fun hv => ?_)
        · walk_at "run"
          refine ⟨_, _, rfl, ?_⟩
          have b2 : (if rs[jn].2 > 1 then rs[jn].2 else 1) ≤ 5 ∧ 0 ≤ (if rs[jn].2 > 1 then rs[jn].2 else 1) := by
            have := hb.2.2.2
            split <;> omega
          refine ⟨_, _, rfl, rfl, b2.2, by omega, by show 1 ≤ 1000; decide, ?_⟩
          walk_at "run"
          refine ⟨_, rfl, fun c hc => ?_, ?_, D7.mono (by omega), k6.trans k7⟩
          · have h1 : c ∈ (List.replicate (if rs[jn].2 > 1 then rs[jn].2 else 1).toNat [rs[jn].1]).flatten := by simpa [repS] using hc
            obtain ⟨l, hl, hcl⟩ := List.mem_flatten.mp h1
            rw [List.eq_of_mem_replicate hl] at hcl
            exact List.mem_singleton.mp hcl
          · rw [repS_len]
            show _ * 1 ≤ 5
            omega
        · walk_at "run"
          exact ⟨_, rfl, fun c hc => by simpa using hc, by show 1 ≤ 5; decide, D7.mono (by omega), k6.trans k7⟩
      rintro σ' H7 ⟨y, rfl, hy, hyl, D7, k7⟩
      walk_at "run"
      refine ⟨z, rfl, Nat.le_trans hz16 (by decide), ?_⟩
      walk_at "run"
      refine ⟨y, rfl, Nat.le_trans hyl (by decide), ?_⟩
      walk_at "run"
      refine n_ite (fun hv => ?_) (fun hv => ?_)
      · walk_at "run"
        refine n_slS hz16 ?_
        walk_at "run"
        have e := cutS_len2 t0 t1
        have hle : (z.length : Int) + y.length ≤ k := d_true hv
        refine ⟨_, _, rfl, rfl, by rw [sizeLine_eq]; omega, ?_⟩
        walk_at "run"
        refine n_slS hz16 ?_
        walk_at "run"
        refine ⟨_, _, rfl, rfl, by rw [strLen_append, sizeLine_eq]; omega, ?_⟩
        walk_at "run"
        refine ⟨_, _, _, _, _, _, rfl, fun c hc => ?_, by rw [strLen_append, strLen_append]; omega, D7.mono (by omega), k7⟩
        rw [cps_toList_append, cps_toList_append, List.mem_append, List.mem_append] at hc
        rcases hc with (hc | hc) | hc
        · exact hz c (cutS_mem hc)
        · rw [hy c hc]
          exact List.mem_map_of_mem (List.getElem_mem jlt)
        · exact hz c (cutS_mem hc)
      · walk_at "run"
        exact ⟨_, _, _, _, _, _, rfl, hz, hzl, D7.mono (by omega), k7⟩
    · rintro σ H3 ⟨z, x4, x5, x6, x7, x8, rfl, hz, hzl, D3, k3⟩
      walk_at "run"
      exact go z H3 hz hzl (D3.mono (by omega)) k3
end

/-! ### rosters checked -/
def txt : PyData → Prop
  | .str x => x.length ≤ 100000
  | _ => True
def dp1 (p : PyData → Prop) : PyData → Prop
  | .tuple ds => ∀ e ∈ ds, p e
  | _ => True
def isSizeD : PyData → Bool
  | .int i => decide (0 ≤ i) && decide (i ≤ 5)
  | _ => false
def isBadgeD : PyData → Bool
  | .str x => decide ((x.length : Int) = 1) && !decide (x.cps.toList < ("a" : Str).cps.toList) && !decide (("z" : Str).cps.toList < x.cps.toList)
  | _ => false
def isEntryD : PyData → Bool
  | .tuple [a, b] => isBadgeD a && isSizeD b
  | _ => false
section
variable {P : Program} {w : World} {K : PySem.W.Frag} {mg : Str → Option Value} {base : Heap}
structure Gi (mg : Str → Option Value) : Prop where
  isi : mg "isinstance" = none
  len : mg "len" = none
  str : mg "str" = none
  int : mg "int" = none
  bool : mg "bool" = none
  tuple : mg "tuple" = none
  m4 : ∃ u, mg "MAX_BADGES" = some u ∧ RelV (.int 4) u
  m5 : ∃ u, mg "MAX_SIZE" = some u ∧ RelV (.int 5) u
def spSize (K : PySem.W.Frag) : Sp := fun vs H Q _ => ∃ v d, vs = [v] ∧ Dz K H v d ∧ Q (.bl (isSizeD d)) H
theorem scSz : FnScope ["thing"] ["thing"] (defScope sSize) := ⟨rfl, rfl, rfl, by decide +kernel, rfl, by decide +kernel, by decide +kernel⟩
theorem ok_size {f : Addr} {fd : FuncData} (F : Fun K "_is_size" "_is_size" sSize f fd) (G : Gi mg) : FnG P w K mg base 1 f fd ["thing"] (spSize K) := by
  refine def_ok F scSz (fun vs H Q E h => ?_) (fun cdv A fr s H vs Q E c h => ?_)
  · obtain ⟨_, _, rfl, _⟩ := h
    rfl
  · obtain ⟨v, d, rfl, hd, go⟩ := h
    refine ⟨_, pss_one (ps_ret (pe_and (pe_callB call_isi (by rfl) G.isi (by decide +kernel) (pa_cons (pv 0) (pa_cons (pe_ty (T := "int") rfl G.int (by decide +kernel)) pa_nil)))
      (pe_and (pe_not (pe_callB call_isi (by rfl) G.isi (by decide +kernel) (pa_cons (pv 0) (pa_cons (pe_ty (T := "bool") rfl G.bool (by decide +kernel)) pa_nil))))
      (pe_one (pe_chain op_le op_le pe_int (pv 0) (pe_gk1 rfl G.m5)))))), ?_⟩
    walk_at "run"
    refine n_isi hd (is_int d) ?_
    cases hd with
    | int i =>
      walk_at "run"
      refine n_isi (b := false) (.int i) (is_bool _) ?_
      walk_at "run"
      refine iteT ?_
      walk_at "run"
      refine n_ite (fun h0 => ?_) (fun h0 => ?_)
      · walk_at "run"
        have e : isSizeD (.int i) = decide (i ≤ 5) := by
          show (decide (0 ≤ i) && decide (i ≤ 5)) = _
          rw [h0, Bool.true_and]
        rw [e] at go
        exact go
      · have e : isSizeD (.int i) = false := by
          show (decide (0 ≤ i) && decide (i ≤ 5)) = _
          rw [h0, Bool.false_and]
        rw [e] at go
        exact go
    | bl b =>
      walk_at "run"
      refine n_isi (.bl b) (is_bool _) ?_
      walk_at "run"
      exact go
    | _ => walk_at "run"; exact go
def spBadge (K : PySem.W.Frag) : Sp := fun vs H Q _ => ∃ v d, vs = [v] ∧ Dz K H v d ∧ txt d ∧ Q (.bl (isBadgeD d)) H
theorem scBg : FnScope ["thing"] ["thing"] (defScope sBadge) := ⟨rfl, rfl, rfl, by decide +kernel, rfl, by decide +kernel, by decide +kernel⟩
theorem ok_badge {f : Addr} {fd : FuncData} (F : Fun K "_is_badge" "_is_badge" sBadge f fd) (G : Gi mg) : FnG P w K mg base 1 f fd ["thing"] (spBadge K) := by
  refine def_ok F scBg (fun vs H Q E h => ?_) (fun cdv A fr s H vs Q E c h => ?_)
  · obtain ⟨_, _, rfl, _⟩ := h
    rfl
  · obtain ⟨v, d, rfl, hd, ht, go⟩ := h
    refine ⟨_, pss_one (ps_ret (pe_and (pe_callB call_isi (by rfl) G.isi (by decide +kernel) (pa_cons (pv 0) (pa_cons (pe_ty (T := "str") rfl G.str (by decide +kernel)) pa_nil)))
      (pe_and (pe_cmpR op_eq (pe_callB call_len_str (by rfl) G.len PySem.boot_len (pa_cons (pv 0) pa_nil)) pe_int (nomark _))
      (pe_one (pe_chain op_le_str op_le_str pe_str (pv 0) pe_str))))), ?_⟩
    walk_at "run"
    refine n_isi hd (is_str d) ?_
    cases hd with
    | str x =>
      walk_at "run"
      refine ⟨x, rfl, Nat.le_trans ht (by decide), ?_⟩
      walk_at "run"
      refine n_ite (fun h0 => ?_) (fun h0 => ?_)
      · walk_at "run"
        refine ⟨_, _, rfl, rfl, ?_⟩
        walk_at "run"
        have h0' := d_true h0
        have e0 : (x.length : Int) = 1 := by simpa using h0'
        refine n_ite (fun h1 => ?_) (fun h1 => ?_)
        · walk_at "run"
          refine ⟨_, _, rfl, rfl, ?_⟩
          have e : isBadgeD (.str x) = !decide (("z" : Str).cps.toList < x.cps.toList) := by
            show (decide ((x.length : Int) = 1) && (!decide (x.cps.toList < ("a" : Str).cps.toList)) && _) = _
            rw [decide_eq_true e0, show (!decide (x.cps.toList < ("a" : Str).cps.toList)) = true from h1]
            rfl
          rw [e] at go
          exact go
        · have e : isBadgeD (.str x) = false := by
            show (decide ((x.length : Int) = 1) && (!decide (x.cps.toList < ("a" : Str).cps.toList)) && _) = _
            rw [show (!decide (x.cps.toList < ("a" : Str).cps.toList)) = false from h1, Bool.and_false, Bool.false_and]
          rw [e] at go
          exact go
      · have h0' := d_false h0
        have e0 : ¬ (x.length : Int) = 1 := by simpa using h0'
        have e : isBadgeD (.str x) = false := by
          show (decide ((x.length : Int) = 1) && (!decide (x.cps.toList < ("a" : Str).cps.toList)) && _) = _
          rw [decide_eq_false e0]
          rfl
        rw [e] at go
        exact go
    | _ => walk_at "run"; exact go
def spEntry (K : PySem.W.Frag) : Sp := fun vs H Q _ => ∃ v d, vs = [v] ∧ Dz K H v d ∧ dp1 txt d ∧ Q (.bl (isEntryD d)) H
theorem scEn : FnScope ["item"] ["item"] (defScope sEntry) := ⟨rfl, rfl, rfl, by decide +kernel, rfl, by decide +kernel, by decide +kernel⟩
theorem ok_entry {f fB fS : Addr} {fd fdB fdS : FuncData} (F : Fun K "_is_entry" "_is_entry" sEntry f fd) (G : Gi mg) (FB : Fun K "_is_badge" "_is_badge" sBadge fB fdB) (FS : Fun K "_is_size" "_is_size" sSize fS fdS)
    (mB : mg "_is_badge" = some (.ref fB)) (mS : mg "_is_size" = some (.ref fS)) (bB : Binds K fdB ["thing"] []) (bS : Binds K fdS ["thing"] []) : FnG P w K mg base 2 f fd ["item"] (spEntry K) := by
  have GB : FnG P w K mg base 1 fB fdB ["thing"] (spBadge K) := ok_badge FB G
  have GS : FnG P w K mg base 1 fS fdS ["thing"] (spSize K) := ok_size FS G
  refine def_ok F scEn (fun vs H Q E h => ?_) (fun cdv A fr s H vs Q E c h => ?_)
  · obtain ⟨_, _, rfl, _⟩ := h
    rfl
  · obtain ⟨v, d, rfl, hd, ht, go⟩ := h
    refine ⟨_, pss_one (ps_ret (pe_and (pe_callB call_isi (by rfl) G.isi (by decide +kernel) (pa_cons (pv 0) (pa_cons (pe_ty (T := "tuple") rfl G.tuple (by decide +kernel)) pa_nil)))
      (pe_and (pe_cmpR op_eq (pe_callB call_len_seq (by rfl) G.len PySem.boot_len (pa_cons (pv 0) pa_nil)) pe_int (nomark _))
      (pe_and (pe_g GB c rfl mB FB.kp bB quiets (pa_cons (pe_ix ix_tup (pv 0) pe_int (fun _ _ => rfl)) pa_nil))
      (pe_one (pe_g GS c rfl mS FS.kp bS quiets (pa_cons (pe_ix ix_tup (pv 0) pe_int (fun _ _ => rfl)) pa_nil))))))), ?_⟩
    walk_at "run"
    refine n_isi hd (is_tuple d) ?_
    cases hd with
    | tup hs ha =>
      rename_i a vs ds
      walk_at "run"
      refine ⟨_, _, rfl, Or.inr hs, ?_⟩
      walk_at "run"
      have hl := DzA.len ha
      refine n_ite (fun h0 => ?_) (fun h0 => ?_)
      · have h2 : ds.length = 2 := by
          have := d_true h0
          have e : (vs.length : Int) = 2 := by simpa using this
          omega
        cases ha with
        | nil => exact absurd h2 (by decide)
        | cons a1 r =>
        cases r with
        | nil => exact absurd h2 (by simp)
        | cons a2 r =>
        cases r with
        | cons a3 r => exact absurd h2 (by simp)
        | nil =>
          rename_i v1 d1 v2 d2
          walk_at "run"
          refine n_ixT hs (show atI [v1, v2] 0 = some v1 from rfl) ?_
          walk_at "run"
          refine ⟨_, _, rfl, a1, ht _ (by simp), ?_⟩
          walk_at "run"
          refine n_ite (fun h1 => ?_) (fun h1 => ?_)
          · walk_at "run"
            refine n_ixT hs (show atI [v1, v2] 1 = some v2 from rfl) ?_
            walk_at "run"
            refine ⟨_, _, rfl, a2, ?_⟩
            have e : isEntryD (.tuple [d1, d2]) = isSizeD d2 := by
              show (isBadgeD d1 && isSizeD d2) = _
              rw [h1, Bool.true_and]
            rw [e] at go
            exact go
          · have e : isEntryD (.tuple [d1, d2]) = false := by
              show (isBadgeD d1 && isSizeD d2) = _
              rw [h1, Bool.false_and]
            rw [e] at go
            exact go
      · have h2 : ds.length ≠ 2 := by
          have := d_false h0
          have e : ¬ (vs.length : Int) = 2 := by simpa using this
          omega
        have e : isEntryD (.tuple ds) = false := by
          match ds, h2 with
          | [], _ => rfl
          | [_], _ => rfl
          | [_, _], h => exact absurd rfl h
          | _ :: _ :: _ :: _, _ => rfl
        rw [e] at go
        exact go
    | _ => walk_at "run"; exact go
end

/-- the badge of an entry -/
def headS : PyData → List Nat
  | .tuple (.str x :: _) => x.cps.toList
  | _ => []
def goodE (b : List Nat) (d : PyData) : Bool := isEntryD d && decide (b < headS d)
def faultAt : Nat → List Nat → List PyData → Option Nat
  | _, _, [] => none
  | i, b, d :: r => if goodE b d = true then faultAt (i + 1) (headS d) r else some i
def faultD : PyData → Option V
  | .tuple ds => if (decide (1 ≤ (ds.length : Int)) && decide ((ds.length : Int) ≤ 4)) = true then (faultAt 0 [] ds).map (fun i => .int (i : Nat)) else some .non
  | _ => some .non
theorem fault_snoc : ∀ {i : Nat} {b : List Nat} {ds es : List PyData}, faultAt i b ds = none → faultAt i b (ds ++ es) = faultAt (i + ds.length) ((ds.getLast?.map headS).getD b) es
  | i, b, [], es, _ => rfl
  | i, b, d :: r, es, h => by
    have h1 : (if goodE b d = true then faultAt (i + 1) (headS d) r else some i) = none := h
    show (if goodE b d = true then faultAt (i + 1) (headS d) (r ++ es) else some i) = _
    by_cases g : goodE b d = true
    · rw [if_pos g] at h1 ⊢
      rw [fault_snoc h1]
      have e1 : i + 1 + r.length = i + (d :: r).length := by simp; omega
      rw [e1]
      congr 1
      cases r with
      | nil => rfl
      | cons x y => simp [List.getLast?_cons]
    · rw [if_neg g] at h1
      cases h1
theorem entry_shape {d : PyData} (h : isEntryD d = true) : ∃ (x : Str) (i : Int), d = .tuple [.str x, .int i] ∧ isBadgeD (.str x) = true ∧ isSizeD (.int i) = true := by
  match d, h with
  | .tuple [a, b], h =>
    have h' : (isBadgeD a && isSizeD b) = true := h
    rw [Bool.and_eq_true] at h'
    obtain ⟨h1, h2⟩ := h'
    cases a with
    | str x =>
      cases b with
      | int i => exact ⟨_, _, rfl, h1, h2⟩
      | _ => cases h2
    | _ => cases h1
def lastB (ds : List PyData) (i : Nat) : List Nat := ((ds.take i).getLast?.map headS).getD []
theorem take_snoc {α : Type} {ds : List α} {i : Nat} {d : α} (h : ds[i]? = some d) : ds.take (i + 1) = ds.take i ++ [d] := by
  rw [List.take_add_one, h]
  rfl
theorem fault_hit {ds : List PyData} {i : Nat} {d : PyData} (h : faultAt 0 [] (ds.take i) = none) (e : ds[i]? = some d) (g : goodE (lastB ds i) d = false) : faultAt 0 [] ds = some i := by
  have hi : i < ds.length := (List.getElem?_eq_some_iff.mp e).1
  have e1 : ds = ds.take i ++ d :: ds.drop (i + 1) := by
    have := (List.getElem?_eq_some_iff.mp e).2
    rw [← this, List.getElem_cons_drop, List.take_append_drop]
  rw [e1, fault_snoc h, List.length_take, Nat.min_eq_left (Nat.le_of_lt hi)]
  show (if goodE (lastB ds i) d = true then _ else some (0 + i)) = _
  rw [g, if_neg (by decide), Nat.zero_add]
theorem fault_go {ds : List PyData} {i : Nat} {d : PyData} (h : faultAt 0 [] (ds.take i) = none) (e : ds[i]? = some d) (g : goodE (lastB ds i) d = true) : faultAt 0 [] (ds.take (i + 1)) = none ∧ lastB ds (i + 1) = headS d := by
  rw [take_snoc e, fault_snoc h]
  refine ⟨?_, ?_⟩
  · show (if goodE (lastB ds i) d = true then none else _) = _
    rw [g, if_pos rfl]
  · unfold lastB
    rw [take_snoc e]
    simp
theorem not_t {b : Bool} (h : (!b) = true) : b = false := by cases b <;> first | rfl | cases h
theorem not_f {b : Bool} (h : (!b) = false) : b = true := by cases b <;> first | rfl | cases h
section
variable {P : Program} {w : World} {K : PySem.W.Frag} {mg : Str → Option Value} {base : Heap}
def spCheckR (K : PySem.W.Frag) (C : Addr) : Sp := fun vs H Q E => ∃ v d, vs = [v] ∧ Dz K H v d ∧ dp1 (dp1 txt) d ∧ match faultD d with
  | none => ∀ H', Same H H' → Q .non H'
  | some x => ∀ H' dx, Same H H' → H dx = none → H' dx = some (.xd [("entry", x)]) → E (.ref C) (some dx) H'
theorem scCr : FnScope ["roster", "before", "entry", "item"] ["roster"] (defScope sCheckR) := ⟨rfl, rfl, rfl, by decide +kernel, rfl, by decide +kernel, by decide +kernel⟩
theorem ok_checkR {f fE C fI : Addr} {fd fdE fdI : FuncData} (F : Fun K "check_roster" "check_roster" sCheckR f fd) (G : Gi mg) (Ge : mg "enumerate" = none) (NE : FnG P w K mg base 2 fE fdE ["item"] (spEntry K)) (mE : mg "_is_entry" = some (.ref fE)) (kE : PySem.W.keepIn K (.ref fE) = true) (bE : Binds K fdE ["item"] [])
    (T : Ec K mg "InvalidRoster" C fI "entry") (FI : FnOk P w K mg base (L2.CX P w) 1 fI fdI ["self", "entry"] (spIni C "entry")) (bI : Binds K fdI ["self", "entry"] []) : FnG P w K mg base 3 f fd ["roster"] (spCheckR K C) := by
  refine def_ok F scCr (fun vs H Q E h => ?_) (fun cdv A fr s H vs Q E c h => ?_)
  · obtain ⟨_, _, rfl, _⟩ := h
    rfl
  · obtain ⟨v, d, rfl, hd, ht, go⟩ := h
    refine ⟨_, pss_cons (ps_if (PW.pt (pw_or (pt_not (pt_val (pe_callB call_isi (by rfl) G.isi (by decide +kernel) (pa_cons (pv 0) (pa_cons (pe_ty (T := "tuple") rfl G.tuple (by decide +kernel)) pa_nil)))))
          (pw_or1 (pt_not (pt_chain op_le op_le pe_int (pe_callB call_len_seq (by rfl) G.len PySem.boot_len (pa_cons (pv 0) pa_nil)) (pe_gk1 rfl G.m4))))))
        (pss_one (ps_rz T FI bI c.room rfl (takes_of rfl rfl rfl rfl) pe_non rfl)) pss_nil)
      (pss_cons (ps_set (i := 1) scCr.nd rfl (Or.inl rfl) pe_str)
      (pss_one (ps_for (passes_of rfl) rfl (pi_et rfl Ge (pa_cons (pv 0) pa_nil)) (pg_tup rfl (pgs_cons (pg_name (i := 2) scCr.nd rfl (Or.inl rfl)) (pgs_cons (pg_name (i := 3) scCr.nd rfl (Or.inl rfl)) pgs_nil)))
        (pss_cons (ps_if (PW.pt (pw_or (pt_not (pt_val (pe_g NE c rfl mE kE bE quiets (pa_cons (pv 3) pa_nil)))) (pw_or1 (pt_cmpR op_le_str (pe_ix ix_tup (pv 3) pe_int (fun _ _ => rfl)) (pv 1) (nomark _)))))
            (pss_one (ps_rz T FI bI c.room rfl (takes_of rfl rfl rfl rfl) (pv 2) rfl)) pss_nil)
        (pss_one (ps_set (i := 1) scCr.nd rfl (Or.inl rfl) (pe_ix ix_tup (pv 3) pe_int (fun _ _ => rfl)))))))), ?_⟩
    walk_at "run"
    refine n_isi hd (is_tuple d) ?_
    cases hd with
    | tup hs ha =>
      rename_i a xs ds
      have hl := DzA.len ha
      have ht : ∀ e ∈ ds, dp1 txt e := ht
      walk_at "run"
      refine iteF ?_
      walk_at "run"
      refine ⟨_, _, rfl, Or.inr hs, ?_⟩
      walk_at "run"
      have bad : ∀ {k : Nat}, ∀ dx, H dx = none → (decide (1 ≤ (ds.length : Int)) && decide ((ds.length : Int) ≤ 4)) = false → E (.ref C) (some dx) (upd H dx (.xd [("entry", .non)])) := fun dx hdx hb => by
        have e : faultD (.tuple ds) = some .non := if_neg (by rw [hb]; decide)
        rw [e] at go
        exact go _ dx (same_new hdx) hdx upd_same
      refine n_ite (fun h1 => ?_) (fun h1 => ?_)
      · walk_at "run"
        refine n_ite (fun h2 => ?_) (fun h2 => ?_)
        · walk_at "run"
          exact fun dx hdx => bad (k := 0) dx hdx (by rw [← hl, h1, Bool.true_and]; exact not_t h2)
        walk_at "run"
        have ok4 : (decide (1 ≤ (ds.length : Int)) && decide ((ds.length : Int) ≤ 4)) = true := by rw [← hl, h1, Bool.true_and]; exact not_f h2
        have e : faultD (.tuple ds) = (faultAt 0 [] ds).map fun i => .int (i : Nat) := if_pos ok4
        rw [e] at go
        refine ⟨a, xs, rfl, hs, for_ix (n := xs.length) (fun i σ H' => ∃ (b : Str) (x2 x3 : Option V), σ = [some (.ref a), some (.str b), x2, x3] ∧ Same H H' ∧ faultAt 0 [] (ds.take i) = none ∧ b.cps.toList = lastB ds i)
          ⟨_, _, _, rfl, fun _ _ h => h, rfl, rfl⟩ (fun i σ H' hi ⟨_, _, _, _, hS, _⟩ => ⟨sqt_same hS hs, hi⟩) (fun σ H' ⟨_, _, _, _, hS, _⟩ => ⟨sqt_same hS hs, rfl⟩) ?_ ?_⟩
        · rintro i σ H' x H2 hi ⟨b, x2, x3, rfl, hS, hf, hb⟩ ⟨Tp, y, rfl, hT, rfl, hy⟩
          obtain ⟨di, hdi, hzi⟩ := DzA.at ha hy
          have hS2 : Same H (upd H' Tp (.tup [.int (i : Nat), y])) := fun b u q => by rw [upd_ne (ne_of_none (hS b u q) hT)]; exact hS b u q
          have hz2 := hzi.same hS2
          have hti : dp1 txt di := ht di (List.mem_of_getElem? hdi)
          have hit : ∀ (H3 : Hp) dx, Same H H3 → H3 dx = none → goodE (lastB ds i) di = false → E (.ref C) (some dx) (upd H3 dx (.xd [("entry", .int (i : Nat))])) := fun H3 dx h3 hdx hg => by
            rw [fault_hit hf hdi hg] at go
            refine go _ dx (fun b u q => by rw [upd_ne (ne_of_none (h3 b u q) hdx)]; exact h3 b u q) ?_ upd_same
            cases q : H dx with
            | none => rfl
            | some u => rw [h3 dx u q] at hdx; cases hdx
          refine n_gtup (SqT.of upd_same) rfl ?_
          walk_at "run"
          refine ⟨y, di, rfl, hz2, hti, ?_⟩
          walk_at "run"
          cases hE : isEntryD di with
          | false =>
            refine iteT ?_
            walk_at "run"
            exact fun dx hdx => hit _ dx hS2 hdx (by unfold goodE; rw [hE]; rfl)
          | true =>
            refine iteF ?_
            obtain ⟨z, n, rfl, hz, hn⟩ := entry_shape hE
            cases hz2 with
            | tup hs3 ha3 =>
            cases ha3 with
            | cons a1 r3 =>
            cases a1 with
            | str =>
            cases r3 with
            | cons a2 r4 =>
            cases r4 with
            | nil =>
            rename_i q v2
            walk_at "run"
            refine n_ixT hs3 (show atI [V.str z, v2] 0 = some (V.str z) from rfl) ?_
            walk_at "run"
            refine ⟨z, b, rfl, rfl, ?_⟩
            walk_at "run"
            refine n_ite (fun h5 => ?_) (fun h5 => ?_)
            · walk_at "run"
              exact fun dx hdx => hit _ dx hS2 hdx (by
                unfold goodE
                rw [hE, ← hb]
                exact not_t h5)
            · walk_at "run"
              refine n_ixT hs3 (show atI [V.str z, v2] 0 = some (V.str z) from rfl) ?_
              walk_at "run"
              obtain ⟨f1, f2⟩ := fault_go hf hdi (by
                unfold goodE
                rw [hE, ← hb]
                exact not_f h5)
              exact ⟨z, _, _, rfl, hS2, f1, f2.symm⟩
        · rintro σ H' ⟨b, x2, x3, rfl, hS, hf, hb⟩
          rw [hl, List.take_length] at hf
          rw [hf] at go
          exact go H' hS
      · walk_at "run"
        exact fun dx hdx => bad (k := 0) dx hdx (by rw [← hl, h1]; rfl)
    | _ =>
      walk_at "run"
      refine iteT ?_
      walk_at "run"
      exact fun dx hdx => go _ dx (same_new hdx) hdx upd_same
end

def headT : PyData → Str
  | .tuple (.str x :: _) => x
  | _ => ""
def badgesD : PyData → Str
  | .tuple ds => Txt.join "" (ds.map headT)
  | _ => ""
theorem headT_S (d : PyData) (h : isEntryD d = true) : headS d = (headT d).cps.toList := by
  obtain ⟨x, i, rfl, _⟩ := entry_shape h
  rfl
theorem badge_one {x : Str} (h : isBadgeD (.str x) = true) : x.length = 1 := by
  have h1 : (decide ((x.length : Int) = 1) && _ && _) = true := h
  rw [Bool.and_eq_true, Bool.and_eq_true] at h1
  have := d_true h1.1.1
  omega
theorem fault_all : ∀ {i : Nat} {b : List Nat} {ds : List PyData}, faultAt i b ds = none → ∀ d ∈ ds, isEntryD d = true
  | i, b, [], _, d, hd => nomatch hd
  | i, b, e :: r, h, d, hd => by
    have h1 : (if goodE b e = true then faultAt (i + 1) (headS e) r else some i) = none := h
    by_cases g : goodE b e = true
    · rw [if_pos g] at h1
      rcases List.mem_cons.mp hd with rfl | hd
      · exact ((Bool.and_eq_true _ _).mp g).1
      · exact fault_all h1 d hd
    · rw [if_neg g] at h1
      cases h1
theorem faultD_some {ds : List PyData} (h : faultD (.tuple ds) = none) : 1 ≤ ds.length ∧ ds.length ≤ 4 ∧ faultAt 0 [] ds = none := by
  have h1 : (if (decide (1 ≤ (ds.length : Int)) && decide ((ds.length : Int) ≤ 4)) = true then (faultAt 0 [] ds).map (fun i => V.int (i : Nat)) else some .non) = none := h
  split at h1
  · rename_i g
    rw [Bool.and_eq_true] at g
    have g1 := d_true g.1
    have g2 := d_true g.2
    refine ⟨by omega, by omega, ?_⟩
    cases e : faultAt 0 [] ds with
    | none => rfl
    | some i => rw [e] at h1; cases h1
  · cases h1
theorem glue0 : ∀ (r : List Str) (acc : Array Nat), (r.foldl (fun acc p => acc ++ ("" : Str).cps ++ p.cps) acc).toList = acc.toList ++ (r.map fun x => x.cps.toList).flatten
  | [], acc => by simp
  | x :: r, acc => by
    rw [List.foldl_cons, glue0 r]
    have e : (("" : Str)).cps = #[] := rfl
    rw [e]
    simp
theorem join0 (ys : List Str) : (Txt.join "" ys).cps.toList = (ys.map fun x => x.cps.toList).flatten := by
  show (((ys.drop 1).foldl (fun acc p => acc ++ ("" : Str).cps ++ p.cps) (ys.headD Str.empty).cps)).toList = _
  cases ys with
  | nil => rfl
  | cons x r => exact glue0 r x.cps
theorem sum_ones : ∀ (ys : List Str), (∀ y ∈ ys, y.length = 1) → (ys.map (·.length)).sum = ys.length
  | [], _ => rfl
  | y :: r, h => by
    rw [List.map_cons, List.sum_cons, h y List.mem_cons_self, sum_ones r fun z hz => h z (List.mem_cons_of_mem _ hz), List.length_cons]
    omega
section
variable {P : Program} {w : World} {K : PySem.W.Frag} {mg : Str → Option Value} {base : Heap}
def spBadges (K : PySem.W.Frag) (C : Addr) : Sp := fun vs H Q E => ∃ v d, vs = [v] ∧ Dz K H v d ∧ dp1 (dp1 txt) d ∧ match faultD d with
  | none => ∀ H', Same H H' → Q (.str (badgesD d)) H'
  | some x => ∀ H' dx, Same H H' → H dx = none → H' dx = some (.xd [("entry", x)]) → E (.ref C) (some dx) H'
theorem scBd : FnScope ["roster", "item"] ["roster"] (defScope sBadges) := ⟨rfl, rfl, rfl, by decide +kernel, rfl, by decide +kernel, by decide +kernel⟩
theorem ok_badges {f fR C : Addr} {fd fdR : FuncData} (F : Fun K "badges_of" "badges_of" sBadges f fd) (NR : FnG P w K mg base 3 fR fdR ["roster"] (spCheckR K C)) (mR : mg "check_roster" = some (.ref fR)) (kR : PySem.W.keepIn K (.ref fR) = true) (bR : Binds K fdR ["roster"] []) :
    FnG P w K mg base 4 f fd ["roster"] (spBadges K C) := by
  refine def_ok F scBd (fun vs H Q E h => ?_) (fun cdv A fr s H vs Q E c h => ?_)
  · obtain ⟨_, _, rfl, _⟩ := h
    rfl
  · obtain ⟨v, d, rfl, hd, ht, go⟩ := h
    refine ⟨_, pss_cons (ps_expr (pe_g NR c rfl mR kR bR (fun σ => passAt (takes_of rfl rfl rfl rfl) σ) (pa_cons (pv 0) pa_nil)))
      (pss_one (ps_ret (pe_join pe_str (pe_lc (own := [("item", 1)]) (g := gName 1) (tt := tYes) (te := tOp (rIxT K) (tVar 1) (tC (.int 0))) rfl scBd.nd (pi_tup (pv 0)) (blkOk_by (N := ["roster", "item"]) (sc := defScope sBadges) (by decide +kernel)) (fun _ _ _ _ _ => pg_name (i := 1) scBd.nd rfl (Or.inl rfl)) (fun _ _ _ _ _ => pts_nil) (fun _ _ _ _ _ => pe_ix ix_tup (pv 1) pe_int (fun _ _ => rfl)))))), ?_⟩
    walk_at "run"
    refine ⟨v, d, rfl, hd, ht, ?_⟩
    cases e : faultD d with
    | some x =>
      rw [e] at go
      exact fun H' dx hS h1 h2 => go H' dx hS h1 h2
    | none =>
      rw [e] at go
      intro H' hS
      walk_at "run"
      cases hd with
      | tup hs ha =>
        rename_i a xs ds
        obtain ⟨n1, n4, hf⟩ := faultD_some e
        have hl := DzA.len ha
        have hall := fault_all hf
        have ones : ∀ y ∈ ds.map headT, y.length = 1 := fun y hy => by
          obtain ⟨d, hd, rfl⟩ := List.mem_map.mp hy
          obtain ⟨x, i, rfl, hb, _⟩ := entry_shape (hall d hd)
          exact badge_one hb
        refine ⟨a, rfl, ⟨_, sqt_same hS hs⟩, fun D hD => lc_tup (xs := xs) (fun i H3 => (∀ b o, H' b = some o → H3 b = some o) ∧ H3 D = some (.lst (((ds.take i).map headT).map V.str)))
          ⟨fun b o h => by rw [upd_ne (ne_of_none h hD)]; exact h, upd_same⟩ (fun i H3 _ ⟨h3, _⟩ => sqt_same h3 (sqt_same hS hs)) ?_ ?_⟩
        · rintro i x H3 hx ⟨h3, hD3⟩
          obtain ⟨di, hdi, hzi⟩ := DzA.at ha hx
          obtain ⟨z, n, rfl, hz, hn⟩ := entry_shape (hall di (List.mem_of_getElem? hdi))
          have hi : i < ds.length := (List.getElem?_eq_some_iff.mp hdi).1
          have hzi3 := (hzi.same hS).same h3
          walk_at "run"
          refine ⟨rfl, ?_⟩
          walk_at "run"
          cases hzi3 with
          | tup hs3 ha3 =>
          cases ha3 with
          | cons a1 r3 =>
          cases a1 with
          | str =>
          cases r3 with
          | cons a2 r4 =>
          cases r4 with
          | nil =>
          rename_i q v2
          refine n_ixT hs3 (show atI [V.str z, v2] 0 = some (V.str z) from rfl) ?_
          refine ⟨_, hD3, ?_, fun b o h => ?_, ?_⟩
          · rw [List.length_map, List.length_map, List.length_take, sizeLine_eq]
            omega
          · rw [upd_ne (ne_of_none h hD)]
            exact h3 b o h
          · rw [upd_same, take_snoc hdi, List.map_append, List.map_append]
            rfl
        · rintro H3 ⟨h3, hD3⟩
          rw [hl, List.take_length] at hD3
          refine ⟨"", D, ds.map headT, rfl, rfl, Or.inl (SqL.of hD3), ?_, ?_⟩
          · rw [sum_ones _ ones, List.length_map]
            show ds.length + ds.length * 0 ≤ 16777216
            omega
          · exact go H3 fun b o h => h3 b o (hS b o h)
      | _ => cases e
end

/-! ### people checked -/
def lineD (bs : Str) : PyData → Option V
  | .str z => if decide (12 < (z.length : Int)) = true then some .non else (z.cps.toList.findIdx? fun c => !decide (c ∈ bs.cps.toList)).map fun i => .int (i : Nat)
  | _ => some .non
/-- which error is due: of the roster, of the people -/
def outL (d l : PyData) : Option (Bool × V) := match faultD d with
  | some x => some (false, x)
  | none => (lineD (badgesD d) l).map fun x => (true, x)
def empD : PyData → Bool
  | .str z => !((z.length : Int) != 0)
  | _ => false
def outG (d l : PyData) : Option (Bool × V) := match outL d l with
  | some y => some y
  | none => if empD l = true then some (true, .non) else none
def Err (C C2 : Addr) (E : XK) (H : Hp) : Bool × V → Prop
  | (false, x) => ∀ H' dx, Same H H' → H dx = none → H' dx = some (.xd [("entry", x)]) → E (.ref C) (some dx) H'
  | (true, x) => ∀ H' dx, Same H H' → H dx = none → H' dx = some (.xd [("place", x)]) → E (.ref C2) (some dx) H'
theorem same_none {H H' : Hp} {a : Addr} (e : Same H H') (h : H' a = none) : H a = none := by
  cases q : H a with
  | none => rfl
  | some u => rw [e a u q] at h; cases h
theorem same_tr {H H1 H2 : Hp} (e : Same H H1) (e2 : Same H1 H2) : Same H H2 := fun b u q => e2 b u (e b u q)
theorem Err.same {C C2 : Addr} {E : XK} {H H1 : Hp} {o : Bool × V} (e : Same H H1) (h : Err C C2 E H o) : Err C C2 E H1 o := by
  obtain ⟨b, x⟩ := o
  cases b with
  | false => exact fun H' dx h1 h2 h3 => h H' dx (same_tr e h1) (same_none e h2) h3
  | true => exact fun H' dx h1 h2 h3 => h H' dx (same_tr e h1) (same_none e h2) h3
section
variable {P : Program} {w : World} {K : PySem.W.Frag} {mg : Str → Option Value} {base : Heap}
theorem walk_es {z : Str} : Walk (Ies z) z.cps.size (fun _ => True) (fun i H v H' => ∃ T c, v = .ref T ∧ H T = none ∧ H' = upd H T (.tup [.int (i : Nat), .str ⟨#[c]⟩]) ∧ z.cps[i]? = some c) :=
  ⟨fun _ _ hi _ => hi, fun _ _ => rfl, fun _ _ _ _ _ _ y => y⟩
theorem walk_et {a : Addr} {xs : List V} : Walk (Iet K a xs) xs.length (fun H => SqT K H a xs) (fun i H v H' => ∃ T x, v = .ref T ∧ H T = none ∧ H' = upd H T (.tup [.int (i : Nat), x]) ∧ xs[i]? = some x) :=
  ⟨fun _ _ hi q => ⟨q, hi⟩, fun _ q => ⟨q, rfl⟩, fun _ _ _ _ _ _ y => y⟩
def spCheckL (K : PySem.W.Frag) (C C2 : Addr) : Sp := fun vs H Q E => ∃ v d u l, vs = [v, u] ∧ Dz K H v d ∧ Dz K H u l ∧ dp1 (dp1 txt) d ∧ txt l ∧ match outL d l with
  | none => ∀ H', Same H H' → Q .non H'
  | some o => Err C C2 E H o
theorem scCl : FnScope ["roster", "line", "badges", "place", "person"] ["roster", "line"] (defScope sCheckL) := ⟨rfl, rfl, rfl, by decide +kernel, rfl, by decide +kernel, by decide +kernel⟩
theorem ok_checkL {f fB C C2 fI : Addr} {fd fdB fdI : FuncData} (F : Fun K "check_line" "check_line" sCheckL f fd) (G : Gi mg) (Ge : mg "enumerate" = none) (m12 : ∃ u, mg "MAX_PEOPLE" = some u ∧ RelV (.int 12) u) (NB : FnG P w K mg base 4 fB fdB ["roster"] (spBadges K C)) (mB : mg "badges_of" = some (.ref fB)) (kB : PySem.W.keepIn K (.ref fB) = true)
    (bB : Binds K fdB ["roster"] []) (T : Ec K mg "InvalidPeople" C2 fI "place") (FI : FnOk P w K mg base (L2.CX P w) 1 fI fdI ["self", "place"] (spIni C2 "place")) (bI : Binds K fdI ["self", "place"] []) : FnG P w K mg base 5 f fd ["roster", "line"] (spCheckL K C C2) := by
  refine def_ok F scCl (fun vs H Q E h => ?_) (fun cdv A fr s H vs Q E c h => ?_)
  · obtain ⟨_, _, _, _, rfl, _⟩ := h
    rfl
  · obtain ⟨v, d, u, l, rfl, hd, hu, ht, hl, go⟩ := h
    refine ⟨_, pss_cons (ps_set (i := 2) scCl.nd rfl (Or.inl rfl) (pe_g NB c rfl mB kB bB (fun σ => passAt (takes_of rfl rfl rfl rfl) σ) (pa_cons (pv 0) pa_nil)))
      (pss_cons (ps_if (PW.pt (pw_or (pt_not (pt_val (pe_callB call_isi (by rfl) G.isi (by decide +kernel) (pa_cons (pv 1) (pa_cons (pe_ty (T := "str") rfl G.str (by decide +kernel)) pa_nil)))))
          (pw_or1 (pt_cmpR op_gt (pe_callB call_len_str (by rfl) G.len PySem.boot_len (pa_cons (pv 1) pa_nil)) (pe_gk1 rfl m12) (nomark _)))))
        (pss_one (ps_rz T FI bI (c.mono (by decide)).room rfl (takes_of rfl rfl rfl rfl) pe_non rfl)) pss_nil)
      (pss_one (ps_for (passes_of rfl) rfl (pi_es rfl Ge (pa_cons (pv 1) pa_nil)) (pg_tup rfl (pgs_cons (pg_name (i := 3) scCl.nd rfl (Or.inl rfl)) (pgs_cons (pg_name (i := 4) scCl.nd rfl (Or.inl rfl)) pgs_nil)))
        (pss_one (ps_if (pt_cmpR op_notIn_sign (pv 4) (pv 2) (by rfl)) (pss_one (ps_rz T FI bI (c.mono (by decide)).room rfl (takes_of rfl rfl rfl rfl) (pv 3) rfl)) pss_nil))))), ?_⟩
    walk_at "run"
    refine ⟨v, d, rfl, hd, ht, ?_⟩
    unfold outL at go
    cases e : faultD d with
    | some x =>
      rw [e] at go
      exact fun H' dx hS h1 h2 => go H' dx hS h1 h2
    | none =>
      rw [e] at go
      intro H1 hS1
      have hu1 := hu.same hS1
      walk_at "run"
      refine n_isi hu1 (is_str l) ?_
      cases hu1 with
      | str z =>
        walk_at "run"
        refine iteF ?_
        walk_at "run"
        refine ⟨z, rfl, Nat.le_trans hl (by decide), ?_⟩
        walk_at "run"
        refine n_ite (fun h1 => ?_) (fun h1 => ?_)
        · walk_at "run"
          have e2 : lineD (badgesD d) (.str z) = some .non := if_pos h1
          rw [e2] at go
          exact fun dx hdx => go _ dx (same_tr hS1 (same_new hdx)) (same_none hS1 hdx) upd_same
        · walk_at "run"
          have e2 : lineD (badgesD d) (.str z) = (z.cps.toList.findIdx? fun c => !decide (c ∈ (badgesD d).cps.toList)).map fun i => .int (i : Nat) := if_neg (by rw [h1]; decide)
          rw [e2] at go
          refine ⟨z, rfl, for_it walk_es (fun i σ H' => ∃ (x3 x4 : Option V), σ = [some v, some (.str z), some (.str (badgesD d)), x3, x4] ∧ Same H H' ∧ ∀ j, j < i → ∀ c, z.cps.toList[j]? = some c → c ∈ (badgesD d).cps.toList)
            ⟨_, _, rfl, hS1, fun j hj => absurd hj (Nat.not_lt_zero _)⟩ (fun _ _ _ _ _ => trivial) ?_ ?_⟩
          · rintro i x σ H2 H3 hi ⟨x3, x4, rfl, hS, hj⟩ ⟨Tp, c0, rfl, hT, rfl, hc⟩
            have hc' : z.cps.toList[i]? = some c0 := by rw [Array.getElem?_toList]; exact hc
            have hS3 : Same H (upd H2 Tp (.tup [.int (i : Nat), .str ⟨#[c0]⟩])) := fun b u q => by rw [upd_ne (ne_of_none (hS b u q) hT)]; exact hS b u q
            refine n_gtup (SqT.of upd_same) rfl ?_
            walk_at "run"
            refine ⟨c0, badgesD d, rfl, rfl, ?_⟩
            walk_at "run"
            refine n_ite (fun h2 => ?_) (fun h2 => ?_)
            · walk_at "run"
              have ei : (z.cps.toList.findIdx? fun c => !decide (c ∈ (badgesD d).cps.toList)) = some i := by
                rw [List.findIdx?_eq_some_iff_getElem]
                obtain ⟨hlt, hget⟩ := List.getElem?_eq_some_iff.mp hc'
                refine ⟨hlt, by rw [hget]; exact h2, fun j hji => ?_⟩
                have := hj j hji z.cps.toList[j] (by simp)
                simp only [this]
                decide
              rw [ei] at go
              exact fun dx hdx => go _ dx (same_tr hS3 (same_new hdx)) (same_none hS3 hdx) upd_same
            · walk_at "run"
              refine ⟨_, _, rfl, hS3, fun j hji c hcj => ?_⟩
              rcases Nat.lt_succ_iff_lt_or_eq.mp hji with hlt | rfl
              · exact hj j hlt c hcj
              · rw [hc'] at hcj
                cases hcj
                exact d_true (not_f h2)
          · rintro σ H2 ⟨x3, x4, rfl, hS, hj⟩
            have ei : (z.cps.toList.findIdx? fun c => !decide (c ∈ (badgesD d).cps.toList)) = none := by
              rw [List.findIdx?_eq_none_iff]
              intro c hc
              obtain ⟨j, hlt, hget⟩ := List.mem_iff_getElem.mp hc
              have := hj j (by rw [← Array.length_toList]; exact hlt) c (by rw [List.getElem?_eq_getElem hlt, hget])
              simp only [this]
              decide
            rw [ei] at go
            exact go H2 hS
      | _ =>
        walk_at "run"
        refine iteT ?_
        walk_at "run"
        exact fun dx hdx => go _ dx (same_tr hS1 (same_new hdx)) (same_none hS1 hdx) upd_same
def spCheckG (K : PySem.W.Frag) (C C2 : Addr) : Sp := fun vs H Q E => ∃ v d u l, vs = [v, u] ∧ Dz K H v d ∧ Dz K H u l ∧ dp1 (dp1 txt) d ∧ txt l ∧ match outG d l with
  | none => ∀ H', Same H H' → Q .non H'
  | some o => Err C C2 E H o
theorem scCg : FnScope ["roster", "ring"] ["roster", "ring"] (defScope sCheckG) := ⟨rfl, rfl, rfl, by decide +kernel, rfl, by decide +kernel, by decide +kernel⟩
theorem ok_checkG {f fL C C2 fI : Addr} {fd fdL fdI : FuncData} (F : Fun K "check_ring" "check_ring" sCheckG f fd) (NL : FnG P w K mg base 5 fL fdL ["roster", "line"] (spCheckL K C C2)) (mL : mg "check_line" = some (.ref fL)) (kL : PySem.W.keepIn K (.ref fL) = true)
    (bL : Binds K fdL ["roster", "line"] []) (T : Ec K mg "InvalidPeople" C2 fI "place") (FI : FnOk P w K mg base (L2.CX P w) 1 fI fdI ["self", "place"] (spIni C2 "place")) (bI : Binds K fdI ["self", "place"] []) : FnG P w K mg base 6 f fd ["roster", "ring"] (spCheckG K C C2) := by
  refine def_ok F scCg (fun vs H Q E h => ?_) (fun cdv A fr s H vs Q E c h => ?_)
  · obtain ⟨_, _, _, _, rfl, _⟩ := h
    rfl
  · obtain ⟨v, d, u, l, rfl, hd, hu, ht, hl, go⟩ := h
    refine ⟨_, pss_cons (ps_expr (pe_g NL c rfl mL kL bL (fun σ => passAt (takes_of rfl rfl rfl rfl) σ) (pa_cons (pv 0) (pa_cons (pv 1) pa_nil))))
      (pss_one (ps_if (pt_not (pt_truth (pv 1) (fun _ => rfl))) (pss_one (ps_rz T FI bI (c.mono (by decide)).room rfl (takes_of rfl rfl rfl rfl) pe_non rfl)) pss_nil)), ?_⟩
    walk_at "run"
    refine ⟨v, d, u, l, rfl, hd, hu, ht, hl, ?_⟩
    unfold outG at go
    cases e : outL d l with
    | some x =>
      rw [e] at go
      obtain ⟨b, x⟩ := x
      cases b with
      | false => exact fun H' dx hS h1 h2 => go H' dx hS h1 h2
      | true => exact fun H' dx hS h1 h2 => go H' dx hS h1 h2
    | none =>
      rw [e] at go
      intro H1 hS1
      walk_at "run"
      cases hu with
      | str z =>
        refine ⟨_, ⟨Nat.le_trans hl (by decide), rfl⟩, ?_⟩
        show if (!((z.length : Int) != 0)) = true then _ else _
        cases e0 : ((z.length : Int) != 0) with
        | true =>
          walk_at "run"
          have e1 : empD (.str z) = false := by
            show (!((z.length : Int) != 0)) = false
            rw [e0]
            rfl
          rw [e1] at go
          exact go H1 hS1
        | false =>
          walk_at "run"
          have e1 : empD (.str z) = true := by
            show (!((z.length : Int) != 0)) = true
            rw [e0]
            rfl
          rw [e1] at go
          exact fun dx hdx => go _ dx (same_tr hS1 (same_new hdx)) (same_none hS1 hdx) upd_same
      | _ =>
        unfold outL at e
        cases e2 : faultD d with
        | some x => rw [e2] at e; cases e
        | none => rw [e2] at e; cases e
end

theorem flat_ones : ∀ (ys : List Str), (∀ y ∈ ys, y.length = 1) → ((ys.map fun x => x.cps.toList).flatten).length = ys.length
  | [], _ => rfl
  | y :: r, h => by
    have h1 : y.cps.toList.length = 1 := by rw [Array.length_toList]; exact h y List.mem_cons_self
    rw [List.map_cons, List.flatten_cons, List.length_append, flat_ones r fun z hz => h z (List.mem_cons_of_mem _ hz), h1, List.length_cons]
    omega
theorem badges_len {d : PyData} (h : faultD d = none) : (badgesD d).cps.size ≤ 4 := by
  match d, h with
  | .tuple ds, h =>
    obtain ⟨n1, n4, hf⟩ := faultD_some h
    have hall := fault_all hf
    have ones : ∀ y ∈ ds.map headT, y.length = 1 := fun y hy => by
      obtain ⟨d, hd, rfl⟩ := List.mem_map.mp hy
      obtain ⟨x, i, rfl, hb, _⟩ := entry_shape (hall d hd)
      exact badge_one hb
    have e : (badgesD (.tuple ds)).cps.toList.length = ds.length := by
      show (Txt.join "" (ds.map headT)).cps.toList.length = _
      rw [join0, flat_ones _ ones, List.length_map]
    rw [Array.length_toList] at e
    omega
def ltxt : PyData → Str
  | .str z => z
  | _ => ""
theorem outL_none {d l : PyData} (h : outL d l = none) : ∃ z, l = .str z ∧ z.length ≤ 12 ∧ faultD d = none ∧ ∀ c ∈ z.cps.toList, c ∈ (badgesD d).cps.toList := by
  unfold outL at h
  cases e : faultD d with
  | some x => rw [e] at h; cases h
  | none =>
    rw [e] at h
    match l, h with
    | .str z, h =>
      refine ⟨z, rfl, ?_⟩
      have h1 : (if decide (12 < (z.length : Int)) = true then some V.non else (z.cps.toList.findIdx? fun c => !decide (c ∈ (badgesD d).cps.toList)).map fun i => .int (i : Nat)) = none := by
        have h2 : Option.map (fun x => (true, x)) (lineD (badgesD d) (.str z)) = none := h
        exact Option.map_eq_none_iff.mp h2
      split at h1
      · cases h1
      · rename_i g
        have g' : ¬ (12 < (z.length : Int)) := fun q => g (decide_eq_true q)
        refine ⟨by omega, rfl, fun c hc => ?_⟩
        have := List.findIdx?_eq_none_iff.mp (Option.map_eq_none_iff.mp h1) c hc
        exact d_true (not_f this)
theorem outG_none {d l : PyData} (h : outG d l = none) : outL d l = none ∧ 1 ≤ (ltxt l).length := by
  unfold outG at h
  cases e : outL d l with
  | some x => rw [e] at h; cases h
  | none =>
    rw [e] at h
    obtain ⟨z, rfl, _⟩ := outL_none e
    refine ⟨rfl, ?_⟩
    show 1 ≤ z.length
    have h1 : (if (!((z.length : Int) != 0)) = true then some (true, V.non) else none) = none := h
    split at h1
    · cases h1
    · rename_i g
      have := not_f (Bool.not_eq_true _ ▸ g : (!((z.length : Int) != 0)) = false)
      have h2 := bne_iff_ne.mp this
      omega
theorem cnt_count (c : Nat) : ∀ l : List Nat, PyProof.Rows.cnt c l = (l.count c : Int)
  | [] => rfl
  | n :: r => by
    rw [PyProof.Rows.cnt_cons, cnt_count c r, List.count_cons]
    by_cases h : n = c
    · subst h
      simp
      omega
    · rw [if_neg h, if_neg (by simpa using h)]
      simp
section
variable {P : Program} {w : World} {K : PySem.W.Frag} {mg : Str → Option Value} {base : Heap}
def spCounts (K : PySem.W.Frag) (C C2 : Addr) : Sp := fun vs H Q E => ∃ v d u l, vs = [v, u] ∧ Dz K H v d ∧ Dz K H u l ∧ dp1 (dp1 txt) d ∧ txt l ∧ match outL d l with
  | none => ∀ H' p, Same H H' → H p = none → H' p = some (.tup ((badgesD d).cps.toList.map fun c => .int ((ltxt l).cps.toList.count c : Nat))) → Q (.ref p) H'
  | some o => Err C C2 E H o
theorem scCo : FnScope ["roster", "line", "badge"] ["roster", "line"] (defScope sCounts) := ⟨rfl, rfl, rfl, by decide +kernel, rfl, by decide +kernel, by decide +kernel⟩
theorem ok_counts {f fL fB C C2 : Addr} {fd fdL fdB : FuncData} (F : Fun K "counts_of" "counts_of" sCounts f fd) (mT : mg "tuple" = none) (NL : FnG P w K mg base 5 fL fdL ["roster", "line"] (spCheckL K C C2)) (mL : mg "check_line" = some (.ref fL)) (kL : PySem.W.keepIn K (.ref fL) = true)
    (bL : Binds K fdL ["roster", "line"] []) (NB : FnG P w K mg base 4 fB fdB ["roster"] (spBadges K C)) (mB : mg "badges_of" = some (.ref fB)) (kB : PySem.W.keepIn K (.ref fB) = true) (bB : Binds K fdB ["roster"] []) : FnG P w K mg base 6 f fd ["roster", "line"] (spCounts K C C2) := by
  refine def_ok F scCo (fun vs H Q E h => ?_) (fun cdv A fr s H vs Q E c h => ?_)
  · obtain ⟨_, _, _, _, rfl, _⟩ := h
    rfl
  · obtain ⟨v, d, u, l, rfl, hd, hu, ht, hl, go⟩ := h
    refine ⟨_, pss_cons (ps_expr (pe_g NL c rfl mL kL bL (fun σ => passAt (takes_of rfl rfl rfl rfl) σ) (pa_cons (pv 0) (pa_cons (pv 1) pa_nil))))
      (pss_one (ps_ret (pe_callTy call_tuple_of (by rfl) mT (by decide +kernel) (pa_cons (pe_lc (own := [("badge", 2)]) (g := gName 2) (tt := tYes) rfl scCo.nd
        (pi_str (pe_g NB (c.mono (by decide)) rfl mB kB bB (fun σ => passAt (takes_of rfl rfl rfl rfl) σ) (pa_cons (pv 0) pa_nil))) (blkOk_by (N := ["roster", "line", "badge"]) (sc := defScope sCounts) (by decide +kernel)) (fun _ _ _ _ _ => pg_name (i := 2) scCo.nd rfl (Or.inl rfl)) (fun _ _ _ _ _ => pts_nil)
        (fun _ _ _ _ _ => pe_m1 PySem.F.slot_str_count PySem.F.type_str_count mt_count (pv 1) (pv 2))) pa_nil)))), ?_⟩
    walk_at "run"
    refine ⟨v, d, u, l, rfl, hd, hu, ht, hl, ?_⟩
    cases e : outL d l with
    | some x =>
      rw [e] at go
      obtain ⟨b, x⟩ := x
      cases b with
      | false => exact fun H' dx hS h1 h2 => go H' dx hS h1 h2
      | true => exact fun H' dx hS h1 h2 => go H' dx hS h1 h2
    | none =>
      rw [e] at go
      intro H1 hS1
      obtain ⟨z, rfl, hz, hf, hb⟩ := outL_none e
      cases hu
      walk_at "run"
      refine ⟨v, d, rfl, hd.same hS1, ht, ?_⟩
      rw [hf]
      intro H2 hS2
      refine ⟨badgesD d, rfl, fun D hD => lc_it walk_str (fun i H3 => (∀ b o, H2 b = some o → H3 b = some o) ∧ H3 D = some (.lst (((badgesD d).cps.toList.take i).map fun c => .int (z.cps.toList.count c : Nat))))
        ⟨fun b o h => by rw [upd_ne (ne_of_none h hD)]; exact h, upd_same⟩ (fun _ _ _ _ => trivial) ?_ ?_⟩
      · rintro i x H3 H4 hi ⟨h3, hD3⟩ ⟨rfl, c0, hc, rfl⟩
        have hc' : (badgesD d).cps.toList[i]? = some c0 := by rw [Array.getElem?_toList]; exact hc
        walk_at "run"
        refine ⟨rfl, ?_⟩
        walk_at "run"
        refine ⟨z, _, rfl, rfl, ?_⟩
        refine ⟨_, hD3, ?_, fun b o h => ?_, ?_⟩
        · have hbl := (badgesD d).cps.toList.length_take (i := i)
          have := badges_len hf
          rw [List.length_map, hbl, sizeLine_eq]
          omega
        · rw [upd_ne (ne_of_none h hD)]
          exact h3 b o h
        · rw [upd_same, take_snoc hc', List.map_append, PyProof.Rows.count_cnt, cnt_count]
          rfl
      · rintro H3 ⟨h3, hD3⟩
        have e9 : (badgesD d).cps.toList.take (badgesD d).cps.size = (badgesD d).cps.toList := by
          rw [← Array.length_toList, List.take_length]
        rw [e9] at hD3
        walk_at "run"
        refine ⟨D, _, rfl, Or.inl ⟨SqL.of hD3, fun p hp => ?_⟩⟩
        refine go _ p (fun b o h => ?_) (same_none (same_tr hS1 (same_tr hS2 h3)) hp) upd_same
        have h5 := h3 b o (hS2 b o (hS1 b o h))
        rw [upd_ne (ne_of_none h5 hp)]
        exact h5
def turnS (z : Str) (i : Int) : Str := cutS z (some (-i % (z.length : Int))) none ++ cutS z none (some (-i % (z.length : Int)))
def spTurned (K : PySem.W.Frag) (C C2 : Addr) : Sp := fun vs H Q E => ∃ v d u l i, vs = [v, u, .int i] ∧ Dz K H v d ∧ Dz K H u l ∧ dp1 (dp1 txt) d ∧ txt l ∧ match outG d l with
  | none => ∀ H', Same H H' → Q (.str (turnS (ltxt l) i)) H'
  | some o => Err C C2 E H o
theorem scTu : FnScope ["roster", "ring", "by", "first"] ["roster", "ring", "by"] (defScope sTurned) := ⟨rfl, rfl, rfl, by decide +kernel, rfl, by decide +kernel, by decide +kernel⟩
theorem ok_turned {f fG C C2 : Addr} {fd fdG : FuncData} (F : Fun K "turned" "turned" sTurned f fd) (mLen : mg "len" = none) (NG : FnG P w K mg base 6 fG fdG ["roster", "ring"] (spCheckG K C C2)) (mG : mg "check_ring" = some (.ref fG)) (kG : PySem.W.keepIn K (.ref fG) = true)
    (bG : Binds K fdG ["roster", "ring"] []) : FnG P w K mg base 7 f fd ["roster", "ring", "by"] (spTurned K C C2) := by
  refine def_ok F scTu (fun vs H Q E h => ?_) (fun cdv A fr s H vs Q E c h => ?_)
  · obtain ⟨_, _, _, _, _, rfl, _⟩ := h
    rfl
  · obtain ⟨v, d, u, l, i, rfl, hd, hu, ht, hl, go⟩ := h
    refine ⟨_, pss_cons (ps_expr (pe_g NG c rfl mG kG bG (fun σ => passAt (takes_of rfl rfl rfl rfl) σ) (pa_cons (pv 0) (pa_cons (pv 1) pa_nil))))
      (pss_cons (ps_set (i := 3) scTu.nd rfl (Or.inl rfl) (pe_op op_mod (pe_un un_neg (pv 2)) (pe_callB call_len_str (by rfl) mLen PySem.boot_len (pa_cons (pv 1) pa_nil))))
      (pss_one (ps_ret (pe_op op_add_str (pe_slice sl_str (pv 1) (po_some (pv 3)) po_none) (pe_slice sl_str (pv 1) po_none (po_some (pv 3))))))), ?_⟩
    walk_at "run"
    refine ⟨v, d, u, l, rfl, hd, hu, ht, hl, ?_⟩
    cases e : outG d l with
    | some x =>
      rw [e] at go
      obtain ⟨b, x⟩ := x
      cases b with
      | false => exact fun H' dx hS h1 h2 => go H' dx hS h1 h2
      | true => exact fun H' dx hS h1 h2 => go H' dx hS h1 h2
    | none =>
      rw [e] at go
      intro H1 hS1
      obtain ⟨e2, hn⟩ := outG_none e
      obtain ⟨z, rfl, hz, hf, hb⟩ := outL_none e2
      have hn : 1 ≤ z.length := hn
      cases hu
      have hz16 : z.length ≤ 100000 := by omega
      walk_at "run"
      refine ⟨z, rfl, Nat.le_trans hz16 (by decide), ?_⟩
      walk_at "run"
      refine n_slS hz16 ?_
      walk_at "run"
      refine n_slS hz16 ?_
      have hm0 : 0 ≤ -i % (z.length : Int) := Int.emod_nonneg _ (by omega)
      have hm1 : -i % (z.length : Int) < z.length := Int.emod_lt_of_pos _ (by omega)
      have el := cutS_len2 hm0 (Int.le_of_lt hm1)
      refine ⟨_, _, rfl, rfl, by rw [sizeLine_eq]; omega, ?_⟩
      exact go H1 hS1
end

/-! ### drawn rosters are rosters; turned lines -/
def enD (r : Nat × Int) : PyData := .tuple [.str ⟨#[r.1]⟩, .int r.2]
def roD (rs : List (Nat × Int)) : PyData := .tuple (rs.map enD)
theorem dza_refs {K : PySem.W.Frag} {H : Hp} {ps : List Addr} {rs : List (Nat × Int)} (h : Paired (isR H) ps rs) : DzA K H (ps.map V.ref) (rs.map enD) := by
  induction h with
  | nil => exact .nil
  | cons r t ih => exact .cons (.tup (SqT.of r) (.cons (.str _) (.cons (.int _) .nil))) ih
theorem ro_dz {K : PySem.W.Frag} {H : Hp} {a : Addr} {rs : List (Nat × Int)} (h : Ro H a rs) : Dz K H (.ref a) (roD rs) := by
  obtain ⟨ps, h1, h2⟩ := h
  exact .tup (SqT.of h1) (dza_refs h2)
theorem ro_txt (rs : List (Nat × Int)) : dp1 (dp1 txt) (roD rs) := fun e he => by
  obtain ⟨r, _, rfl⟩ := List.mem_map.mp he
  intro f hf
  rcases List.mem_cons.mp hf with rfl | hf
  · show 1 ≤ 100000
    decide
  · obtain rfl := List.mem_singleton.mp hf
    trivial
theorem lt_one {a b : Nat} : ([a] < [b]) ↔ a < b := by simp [List.cons_lt_cons_iff]
theorem badge_lt {c : Nat} (h1 : 97 ≤ c) (h2 : c ≤ 122) : isBadgeD (.str ⟨#[c]⟩) = true := by
  have e1 : ("a" : Str).cps.toList = [97] := rfl
  have e2 : ("z" : Str).cps.toList = [122] := rfl
  show (decide ((1 : Int) = 1) && (!decide ([c] < ("a" : Str).cps.toList)) && (!decide (("z" : Str).cps.toList < [c]))) = true
  rw [e1, e2, decide_eq_false (fun q => by have := lt_one.mp q; omega : ¬ [c] < [97]), decide_eq_false (fun q => by have := lt_one.mp q; omega : ¬ [122] < [c])]
  decide
theorem en_entry {r : Nat × Int} (h : okB r) : isEntryD (enD r) = true := by
  obtain ⟨h1, h2, h3, h4⟩ := h
  show (isBadgeD (.str ⟨#[r.1]⟩) && (decide (0 ≤ r.2) && decide (r.2 ≤ 5))) = true
  rw [badge_lt h1 h2, decide_eq_true h3, decide_eq_true h4]
  rfl
theorem fault_ok : ∀ {rs : List (Nat × Int)} {i : Nat} {b : List Nat}, (∀ r ∈ rs, okB r) → rs.Pairwise (fun a b => a.1 < b.1) → (∀ r ∈ rs, b < [r.1]) → faultAt i b (rs.map enD) = none
  | [], i, b, _, _, _ => rfl
  | r :: rs, i, b, h1, h2, h3 => by
    have g : goodE b (enD r) = true := by
      unfold goodE
      rw [en_entry (h1 r List.mem_cons_self), Bool.true_and]
      exact decide_eq_true (h3 r List.mem_cons_self)
    show (if goodE b (enD r) = true then _ else _) = _
    rw [if_pos g]
    obtain ⟨p1, p2⟩ := List.pairwise_cons.mp h2
    exact fault_ok (fun x hx => h1 x (List.mem_cons_of_mem _ hx)) p2 fun x hx => lt_one.mpr (p1 x hx)
theorem ro_good {rs : List (Nat × Int)} (h : okR rs) : faultD (roD rs) = none := by
  obtain ⟨n1, n4, hp, hb⟩ := h
  have e : faultD (roD rs) = (if (decide (1 ≤ ((rs.map enD).length : Int)) && decide (((rs.map enD).length : Int) ≤ 4)) = true then (faultAt 0 [] (rs.map enD)).map (fun i => V.int (i : Nat)) else some .non) := rfl
  rw [e, List.length_map, decide_eq_true (by omega : (1 : Int) ≤ (rs.length : Int)), decide_eq_true (by omega : (rs.length : Int) ≤ 4), if_pos (show (true && true) = true from rfl), fault_ok hb hp fun r _ => List.nil_lt_cons _ _]
  rfl
theorem ro_badges (rs : List (Nat × Int)) : (badgesD (roD rs)).cps.toList = rs.map (·.1) := by
  show (Txt.join "" ((rs.map enD).map headT)).cps.toList = _
  rw [join0, List.map_map, List.map_map]
  induction rs with
  | nil => rfl
  | cons r t ih =>
    rw [List.map_cons, List.flatten_cons, ih]
    rfl
/-- a line of the roster -/
theorem ro_line {rs : List (Nat × Int)} {z : Str} (h : okR rs) (hz : inR rs z) (hl : z.length ≤ 12) : outL (roD rs) (.str z) = none := by
  unfold outL
  rw [ro_good h]
  show Option.map _ (if decide (12 < (z.length : Int)) = true then some V.non else (z.cps.toList.findIdx? fun c => !decide (c ∈ (badgesD (roD rs)).cps.toList)).map fun i => .int (i : Nat)) = none
  rw [if_neg (by rw [decide_eq_true_eq]; omega), ro_badges, List.findIdx?_eq_none_iff.mpr fun c hc => by
    have := hz c hc
    simp only [this]
    decide]
  rfl
theorem ro_ring {rs : List (Nat × Int)} {z : Str} (h : okR rs) (hz : inR rs z) (hl : z.length ≤ 12) (h1 : 1 ≤ z.length) : outG (roD rs) (.str z) = none := by
  unfold outG
  rw [ro_line h hz hl]
  show (if (!((z.length : Int) != 0)) = true then some (true, V.non) else none) = none
  rw [if_neg]
  rw [show ((z.length : Int) != 0) = true from bne_iff_ne.mpr (by omega)]
  decide
/-! turned -/
def rot (z : Str) (i : Int) (k : Nat) : Nat := (((k : Int) - i) % (z.length : Int)).toNat
theorem mod_sub {k n i : Int} : (k + -i % n) % n = (k - i) % n := by
  rw [Int.add_emod, Int.emod_emod, ← Int.add_emod, Int.sub_eq_add_neg]
theorem cut_lo {z : Str} {k : Int} (h0 : 0 ≤ k) : (cutS z none (some k)).cps.toList = z.cps.toList.take k.toNat := by
  obtain ⟨j, rfl⟩ := Int.eq_ofNat_of_zero_le h0
  have e1 : HT.sIx z.length z.length (some (j : Int)) = min j z.length := HT.sIx_nat _ _ _
  show ((z.cps.toList.drop 0).take (HT.sIx z.length z.length (some (j : Int)) - 0)).toArray.toList = z.cps.toList.take ((j : Int).toNat)
  rw [e1]
  simp only [List.drop_zero, Nat.sub_zero, Int.toNat_natCast]
  have hl : z.cps.toList.length = z.length := Array.length_toList
  rw [← hl, List.take_eq_take_iff]
  omega
theorem cut_hi {z : Str} {k : Int} (h0 : 0 ≤ k) : (cutS z (some k) none).cps.toList = z.cps.toList.drop k.toNat := by
  obtain ⟨j, rfl⟩ := Int.eq_ofNat_of_zero_le h0
  have e1 : HT.sIx z.length 0 (some (j : Int)) = min j z.length := HT.sIx_nat _ _ _
  show ((z.cps.toList.drop (HT.sIx z.length 0 (some (j : Int)))).take (z.length - HT.sIx z.length 0 (some (j : Int)))).toArray.toList = z.cps.toList.drop ((j : Int).toNat)
  rw [e1]
  have hl : z.cps.toList.length = z.length := Array.length_toList
  simp only [Int.toNat_natCast]
  rw [List.take_of_length_le (by rw [List.length_drop]; omega)]
  by_cases h : j ≤ z.length
  · rw [Nat.min_eq_left h]
  · rw [Nat.min_eq_right (by omega), List.drop_of_length_le (by omega), List.drop_of_length_le (by omega)]
theorem turn_list {z : Str} {i : Int} (h : 1 ≤ z.length) : (turnS z i).cps.toList = z.cps.toList.drop (-i % (z.length : Int)).toNat ++ z.cps.toList.take (-i % (z.length : Int)).toNat := by
  have h0 : 0 ≤ -i % (z.length : Int) := Int.emod_nonneg _ (by omega)
  unfold turnS
  rw [cps_toList_append, cut_lo h0, cut_hi h0]
theorem turn_len {z : Str} {i : Int} (h : 1 ≤ z.length) : (turnS z i).length = z.length := by
  have h0 : 0 ≤ -i % (z.length : Int) := Int.emod_nonneg _ (by omega)
  have h1 : -i % (z.length : Int) < z.length := Int.emod_lt_of_pos _ (by omega)
  have hl : z.cps.toList.length = z.length := Array.length_toList
  have : (turnS z i).cps.toList.length = z.length := by
    rw [turn_list h, List.length_append, List.length_drop, List.length_take]
    omega
  rw [← this]
  exact Array.length_toList.symm
theorem turn_at {z : Str} {i : Int} {k : Nat} (h : k < z.length) : (turnS z i).cps.toList[k]? = z.cps.toList[rot z i k]? := by
  have h0 : 0 ≤ -i % (z.length : Int) := Int.emod_nonneg _ (by omega)
  have h1 : -i % (z.length : Int) < z.length := Int.emod_lt_of_pos _ (by omega)
  have hl : z.cps.toList.length = z.length := Array.length_toList
  rw [turn_list (by omega)]
  obtain ⟨f, hf⟩ := Int.eq_ofNat_of_zero_le h0
  have hfl : f < z.length := by omega
  have er : rot z i k = (k + f) % z.length := by
    unfold rot
    rw [← mod_sub, hf]
    have : ((k : Int) + (f : Int)) % (z.length : Int) = (((k + f) % z.length : Nat) : Int) := by
      rw [Int.natCast_emod, Int.natCast_add]
    rw [this, Int.toNat_natCast]
  rw [er, hf, Int.toNat_natCast]
  by_cases hk : k < z.length - f
  · rw [List.getElem?_append_left (by rw [List.length_drop]; omega), List.getElem?_drop, Nat.mod_eq_of_lt (by omega), Nat.add_comm]
  · have e3 : (k + f) % z.length = k - (z.length - f) := by
      rw [Nat.mod_eq_sub_mod (by omega), Nat.mod_eq_of_lt (by omega)]
      omega
    rw [List.getElem?_append_right (by rw [List.length_drop]; omega), List.length_drop, hl, List.getElem?_take_of_lt (by omega), e3]
theorem str_ext {x y : Str} (hl : x.length = y.length) (h : ∀ k, k < x.length → x.cps.toList[k]? = y.cps.toList[k]?) : x = y := by
  have hx : x.cps.toList.length = x.length := Array.length_toList
  have hy : y.cps.toList.length = y.length := Array.length_toList
  have e : x.cps.toList = y.cps.toList := List.ext_getElem? fun k => by
    by_cases hk : k < x.length
    · exact h k hk
    · rw [List.getElem?_eq_none (by omega), List.getElem?_eq_none (by omega)]
  cases x
  cases y
  simp only at e
  rw [Array.toList_inj.mp e]
theorem rot_lt {z : Str} {i : Int} {k : Nat} (h : 1 ≤ z.length) : rot z i k < z.length := by
  have h1 : ((k : Int) - i) % (z.length : Int) < z.length := Int.emod_lt_of_pos _ (by omega)
  have h0 : 0 ≤ ((k : Int) - i) % (z.length : Int) := Int.emod_nonneg _ (by omega)
  unfold rot
  omega
theorem rot_rot {z y : Str} {i j : Int} {k : Nat} (e : y.length = z.length) (h : 1 ≤ z.length) : rot z i (rot y j k) = rot z (i + j) k := by
  unfold rot
  have h0 : 0 ≤ ((k : Int) - j) % (z.length : Int) := Int.emod_nonneg _ (by omega)
  rw [e, Int.toNat_of_nonneg h0]
  congr 1
  rw [Int.sub_emod, Int.emod_emod, ← Int.sub_emod]
  congr 1
  omega
theorem turn_turn {z : Str} {i j : Int} (h : 1 ≤ z.length) : turnS (turnS z i) j = turnS z (i + j) := by
  have e := turn_len (z := z) (i := i) h
  have e2 := turn_len (z := turnS z i) (i := j) (by omega)
  have e3 := turn_len (z := z) (i := i + j) h
  refine str_ext (by omega) fun k hk => ?_
  rw [turn_at (by omega), turn_at (by have := rot_lt (z := turnS z i) (i := j) (k := k) (by omega); omega), turn_at (by omega), rot_rot e h]
theorem turn_mul {z : Str} {j : Int} (h : 1 ≤ z.length) : turnS z ((z.length : Int) * j) = z := by
  have e := turn_len (z := z) (i := (z.length : Int) * j) h
  refine str_ext e fun k hk => ?_
  rw [turn_at (by omega)]
  congr 1
  unfold rot
  rw [Int.sub_mul_emod_self_left, Int.emod_eq_of_lt (by omega) (by omega)]
  omega
theorem turn_back {z : Str} {i : Int} (h : 1 ≤ z.length) : turnS (turnS z i) (0 - i) = z := by
  rw [turn_turn h]
  have := turn_mul (z := z) (j := 0) h
  rw [Int.mul_zero] at this
  rw [show i + (0 - i) = 0 by omega]
  exact this
theorem turn_in {z : Str} {i : Int} {rs : List (Nat × Int)} (h : 1 ≤ z.length) (hz : inR rs z) : inR rs (turnS z i) := fun c hc => by
  rw [turn_list h] at hc
  rcases List.mem_append.mp hc with hc | hc
  · exact hz c (List.mem_of_mem_drop hc)
  · exact hz c (List.mem_of_mem_take hc)
theorem turn_item {z : Str} {i : Int} {k : Nat} (h : k < z.length) : (turnS z i).cps.toList[(((k : Int) + i) % (z.length : Int)).toNat]? = z.cps.toList[k]? := by
  have h0 : 0 ≤ ((k : Int) + i) % (z.length : Int) := Int.emod_nonneg _ (by omega)
  have h1 : ((k : Int) + i) % (z.length : Int) < z.length := Int.emod_lt_of_pos _ (by omega)
  rw [turn_at (by omega)]
  congr 1
  unfold rot
  rw [Int.toNat_of_nonneg h0, Int.sub_emod, Int.emod_emod, ← Int.sub_emod, Int.add_sub_cancel, Int.emod_eq_of_lt (by omega) (by omega)]
  omega

/-! ### the law's own defs -/
theorem strOk1 {c : Nat} (h : c ≤ 122) : (PyData.str ⟨#[c]⟩).canLay0 = true := by
  simp [PyData.canLay0, PyData.strOk]
  omega
theorem can_strs : ∀ (l : List Nat), (∀ c ∈ l, c ≤ 122) → PyData.canLayAll0 (l.map fun c => .str ⟨#[c]⟩) = true
  | [], _ => rfl
  | c :: l, h => by
    rw [List.map_cons, PyData.canLayAll0, strOk1 (h c List.mem_cons_self), can_strs l fun x hx => h x (List.mem_cons_of_mem _ hx)]
    rfl
theorem dep_flat : ∀ (l : List PyData), (∀ d ∈ l, d.depth = 0) → PyData.depthAll l = 0
  | [], _ => rfl
  | d :: l, h => by
    rw [PyData.depthAll, h d List.mem_cons_self, dep_flat l fun x hx => h x (List.mem_cons_of_mem _ hx)]
    rfl
theorem sh_strs (l : List Nat) (h : ∀ c ∈ l, c ≤ 122) : SeqAt.shaped (.list (l.map fun c => .str ⟨#[c]⟩)) = true := by
  unfold SeqAt.shaped
  rw [PyData.canLay0, can_strs l h, PyData.depth, dep_flat _ fun d hd => by
    obtain ⟨c, _, rfl⟩ := List.mem_map.mp hd
    rfl]
  decide
theorem dpa_strs {K : PySem.W.Frag} {H : Hp} : ∀ (l : List Nat), DpAll K H (l.map fun c => V.str ⟨#[c]⟩) (l.map fun c => .str ⟨#[c]⟩)
  | [] => .nil
  | c :: l => .cons (.str _) (dpa_strs l)
section
variable {P : Program} {w : World} {K : PySem.W.Frag} {mg : Str → Option Value} {base : Heap}
def spCount : Sp := fun vs H Q _ => ∃ (z : Str) (c : Nat), vs = [.str z, .str ⟨#[c]⟩] ∧ Q (.int (z.cps.toList.count c : Nat)) H
theorem scLc : FnScope ["people", "mark", "found", "one"] ["people", "mark"] (defScope sCount) := ⟨rfl, rfl, rfl, by decide +kernel, rfl, by decide +kernel, by decide +kernel⟩
theorem one_eq (a c : Nat) : decide (V.str ⟨#[a]⟩ = V.str ⟨#[c]⟩) = decide (a = c) := by
  rw [Bool.eq_iff_iff]
  simp
theorem ok_count {f : Addr} {fd : FuncData} (F : Fun K "_law_count" "_law_count" sCount f fd) (mI : mg "int" = none) : FnG P w K mg base 1 f fd ["people", "mark"] spCount := by
  refine def_ok F scLc (fun vs H Q E h => ?_) (fun cdv A fr s H vs Q E c h => ?_)
  · obtain ⟨_, _, rfl, _⟩ := h
    rfl
  · obtain ⟨z, c, rfl, go⟩ := h
    refine ⟨_, pss_cons (ps_set (i := 2) scLc.nd rfl (Or.inl rfl) pe_int)
      (pss_cons (ps_for (passes_of rfl) rfl (pi_str (pv 0)) (pg_name (i := 3) scLc.nd rfl (Or.inl rfl))
        (pss_one (ps_set (i := 2) scLc.nd rfl (Or.inl rfl) (pe_op op_add (pv 2) (pe_callTy call_int1 (by rfl) mI (by decide +kernel) (pa_cons (pe_cmpR op_eq (pv 3) (pv 1) (nomark _)) pa_nil))))))
      (pss_one (ps_ret (pv 2)))), ?_⟩
    walk_at "run"
    refine ⟨z, rfl, for_it walk_str (fun i σ H' => ∃ x3, σ = [some (.str z), some (.str ⟨#[c]⟩), some (.int ((z.cps.toList.take i).count c : Nat)), x3] ∧ H' = H) ⟨_, rfl, rfl⟩ (fun _ _ _ _ _ => trivial) ?_ ?_⟩
    · rintro i x σ H2 H3 hi ⟨x3, rfl, rfl⟩ ⟨rfl, c0, hc, rfl⟩
      have hc' : z.cps.toList[i]? = some c0 := by rw [Array.getElem?_toList]; exact hc
      walk_at "run"
      refine Or.inr ⟨_, rfl, ?_⟩
      walk_at "run"
      have e1 : ((z.cps.toList.take i).count c : Int) + (if decide (V.str ⟨#[c0]⟩ = V.str ⟨#[c]⟩) = true then 1 else 0) = ((z.cps.toList.take (i + 1)).count c : Nat) := by
        rw [take_snoc hc', List.count_append, one_eq, List.count_singleton]
        by_cases h : c0 = c
        · subst h
          simp
        · rw [decide_eq_false h, if_neg (show ¬ ((c0 == c) = true) by simpa using h)]
          simp
      rw [e1]
      exact ⟨_, rfl, rfl⟩
    · rintro σ H2 ⟨x3, rfl, rfl⟩
      walk_at "run"
      have e9 : z.cps.toList.take z.cps.size = z.cps.toList := by rw [← Array.length_toList, List.take_length]
      rw [e9]
      exact go
def spTR : Sp := fun vs H Q _ => ∃ (p cc a : Addr) (rs : List (Nat × Int)) (z : Str) (m : Nat), vs = [.ref p, .ref a, .str z] ∧ Dr H p cc m ∧ m ≤ 999999000 ∧ Ro H a rs ∧ okR rs ∧ inR rs z ∧ 1 ≤ z.length ∧ z.length ≤ 12 ∧
  ∀ H', Dr H' p cc (m + 10) → Kp p H H' → Q (.bl true) H'
structure Gt (mg : Str → Option Value) (fN fT : Addr) : Prop where
  nxt : mg "_law_next" = some (.ref fN)
  tur : mg "turned" = some (.ref fT)
  len : mg "len" = none
  range : mg "range" = none
  list : mg "list" = none
  str : mg "str" = none
  isi : mg "isinstance" = none
theorem scTR : FnScope ["draw", "rules", "people", "size", "far", "k", "first", "second", "found", "at"] ["draw", "rules", "people"] (defScope sTR) := ⟨rfl, rfl, rfl, by decide +kernel, rfl, by decide +kernel, by decide +kernel⟩
theorem ok_tr {f fN fT C C2 : Addr} {fd fdN fdT : FuncData} (F : Fun K "_law_turned_right" "_law_turned_right" sTR f fd) (G : Gt mg fN fT) (N2 : FnG P w K mg base 2 fN fdN ["draw", "bound"] spNext) (kN : PySem.W.keepIn K (.ref fN) = true) (bN : Binds K fdN ["draw", "bound"] [])
    (NT : FnG P w K mg base 7 fT fdT ["roster", "ring", "by"] (spTurned K C C2)) (kT : PySem.W.keepIn K (.ref fT) = true) (bT : Binds K fdT ["roster", "ring", "by"] []) (kbT : KBinds K fdT ["roster", "ring", "by"] ["by", "ring", "roster"] (fun us ws => us ++ ws.reverse) (fun us ws => us ++ ws.reverse)) :
    FnG P w K mg base 8 f fd ["draw", "rules", "people"] spTR := by
  refine def_ok F scTR (fun vs H Q E h => ?_) (fun cdv A fr s H vs Q E c h => ?_)
  · obtain ⟨_, _, _, _, _, _, rfl, _⟩ := h
    rfl
  · obtain ⟨p, cc, a, rs, z, m, rfl, hD, hm, hR, hok, hz, hz1, hz2, go⟩ := h
    have c2 : Calm 2 _ := c.mono (by decide)
    refine ⟨_, pss_cons (ps_asg (pe_tup (pa_cons (pe_callB call_len_str (by rfl) G.len PySem.boot_len (pa_cons (pv 2) pa_nil)) (pa_cons pe_int pa_nil))) (pg_tup rfl (pgs_cons (pg_name (i := 3) scTR.nd rfl (Or.inr rfl)) (pgs_cons (pg_name (i := 4) scTR.nd rfl (Or.inl rfl)) pgs_nil))))
      (pss_cons (ps_for (passes_of rfl) rfl (pi_range1 rfl G.range (pa_cons (pe_g N2 c2 rfl G.nxt kN bN quiets (pa_cons (pv 0) (pa_cons pe_int pa_nil))) pa_nil)) (pg_name (i := 5) scTR.nd rfl (Or.inl rfl))
        (pss_one (ps_set (i := 4) scTR.nd rfl (Or.inl rfl) (pe_op op_mul (pv 4) (pe_op op_pow pe_int pe_int)))))
      (pss_cons (ps_set (i := 6) scTR.nd rfl (Or.inr rfl) (pe_op op_add (pe_op op_mul (pe_op op_sub (pe_g N2 c2 rfl G.nxt kN bN quiets (pa_cons (pv 0) (pa_cons pe_int pa_nil))) pe_int) (pv 4)) (pe_g N2 c2 rfl G.nxt kN bN quiets (pa_cons (pv 0) (pa_cons pe_int pa_nil)))))
      (pss_cons (ps_set (i := 7) scTR.nd rfl (Or.inl rfl) (pe_op op_sub (pe_g N2 c2 rfl G.nxt kN bN quiets (pa_cons (pv 0) (pa_cons pe_int pa_nil))) pe_int))
      (pss_cons (ps_set (i := 8) scTR.nd rfl (Or.inr rfl) (pe_g NT c rfl G.tur kT bT quiets (pa_cons (pv 1) (pa_cons (pv 2) (pa_cons (pv 6) pa_nil)))))
      (pss_cons (ps_if (PW.pt (pw_or (pt_not (pt_val (pe_callB call_isi (by rfl) G.isi (by decide +kernel) (pa_cons (pv 8) (pa_cons (pe_ty (T := "str") rfl G.str (by decide +kernel)) pa_nil)))))
          (pw_or1 (pt_cmpR op_ne (pe_callB call_len_str (by rfl) G.len PySem.boot_len (pa_cons (pv 8) pa_nil)) (pv 3) (nomark _)))))
        (pss_one (ps_ret pe_bl)) pss_nil)
      (pss_cons (ps_if (pt_cmpR (op_neD c.room.units) (pe_lc (own := [("at", 9)]) (g := gName 9) (tt := tYes) rfl scTR.nd (pi_range1 rfl G.range (pa_cons (pv 3) pa_nil)) (blkOk_by (N := ["draw", "rules", "people", "size", "far", "k", "first", "second", "found", "at"]) (sc := defScope sTR) (by decide +kernel))
            (fun _ _ _ _ _ => pg_name (i := 9) scTR.nd rfl (Or.inl rfl)) (fun _ _ _ _ _ => pts_nil) (fun _ _ _ _ _ => pe_item_str (pv 8) (pe_op op_mod (pe_op op_add (pv 9) (pv 6)) (pv 3)) (fun _ _ => rfl)))
          (pe_callTy (call_listS rfl) (by rfl) G.list (by decide +kernel) (pa_cons (pv 2) pa_nil)) (nomark _))
        (pss_one (ps_ret pe_bl)) pss_nil)
      (pss_cons (ps_if (pt_cmpR op_ne (pe_gk0 NT c rfl G.tur kT kbT quiets (pk_cons (pv 7) (pk_cons (pv 8) (pk_cons (pv 1) pk_nil)))) (pe_g NT c rfl G.tur kT bT quiets (pa_cons (pv 1) (pa_cons (pv 2) (pa_cons (pe_op op_add (pv 6) (pv 7)) pa_nil)))) (nomark _))
        (pss_one (ps_ret pe_bl)) pss_nil)
      (pss_one (ps_ret (pe_and (pe_cmpR op_eq (pe_g NT c rfl G.tur kT bT quiets (pa_cons (pv 1) (pa_cons (pv 8) (pa_cons (pe_op op_sub pe_int (pv 6)) pa_nil)))) (pv 2) (nomark _))
        (pe_one (pe_cmpR op_eq (pe_g NT c rfl G.tur kT bT quiets (pa_cons (pv 1) (pa_cons (pv 2) (pa_cons (pe_op op_mul (pv 3) (pv 7)) pa_nil)))) (pv 2) (nomark _))))))))))))), ?_⟩
    walk_at "run"
    refine ⟨z, rfl, by rw [sizeLine_eq]; omega, ?_⟩
    walk_at "run"
    refine ⟨(by show 2 ≤ sizeLine; decide), fun t ht => ?_⟩
    walk_at "run"
    refine n_gtup (SqT.of upd_same) rfl ?_
    walk_at "run"
    have k0 : Kp p H (upd H t (.tup [.int z.length, .int 1])) := fun b u _ h => by rw [upd_ne (ne_of_none h ht)]; exact h
    refine ⟨p, cc, 3, m, rfl, hD.new ht, by omega, by decide, by decide, fun n H1 na nb D1 k1 => ?_⟩
    walk_at "run"
    refine ⟨_, rfl, by omega, by omega, for_range (n := n.toNat) (fun i σ H' => ∃ (fr : Int) (x5 : Option V), σ = [some (.ref p), some (.ref a), some (.str z), some (.int z.length), some (.int fr), x5, none, none, none, none] ∧ H' = H1)
      ⟨_, _, rfl, rfl⟩ ?_ ?_⟩
    · rintro i σ H2 hi ⟨fr, x5, rfl, rfl⟩
      walk_at "run"
      refine ⟨_, _, rfl, rfl, Or.inr ⟨by decide, by decide⟩, ?_⟩
      walk_at "run"
      exact ⟨_, _, rfl, rfl⟩
    rintro σ H2 ⟨fr, x5, rfl, rfl⟩
    walk_at "run"
    refine ⟨p, cc, 61, _, rfl, D1, by omega, by decide, by decide, fun n2 H3 n2a n2b D3 k3 => ?_⟩
    walk_at "run"
    refine ⟨p, cc, 5, _, rfl, D3, by omega, by decide, by decide, fun n4 H4 n4a n4b D4 k4 => ?_⟩
    walk_at "run"
    refine ⟨p, cc, 61, _, rfl, D4, by omega, by decide, by decide, fun n5 H5 n5a n5b D5 k5 => ?_⟩
    walk_at "run"
    have k05 : Kp p H H5 := k0.trans (k1.trans (k3.trans (k4.trans k5)))
    have hR5 : Ro H5 a rs := hR.keep (hD.tups k05)
    generalize hfi : (n2 - 30) * fr + n4 = fi
    generalize hse : n5 - 30 = se
    have hg := ro_ring hok hz hz2 hz1
    have call : ∀ (H6 : Hp) (y : Str) (i : Int) (Q : VK) (E : XK), Same H5 H6 → inR rs y → y.length = z.length → (∀ H', Same H5 H' → Q (.str (turnS y i)) H') → spTurned K C C2 [.ref a, .str y, .int i] H6 Q E := fun H6 y i Q E hS hy hyl q => by
      refine ⟨.ref a, roD rs, .str y, .str y, i, rfl, ro_dz (hR5.keep fun b xs h => hS b _ h), .str y, ro_txt rs, by show y.length ≤ 100000; omega, ?_⟩
      rw [ro_ring hok hy (by omega) (by omega)]
      exact fun H' hS' => q H' (same_tr hS hS')
    refine call _ z fi _ _ (fun _ _ h => h) hz rfl fun H6 hS6 => ?_
    have hfl := turn_len (i := fi) hz1
    have hfin : inR rs (turnS z fi) := turn_in hz1 hz
    walk_at "run"
    refine n_isi (b := true) (.str _) (is_str _) ?_
    walk_at "run"
    refine iteF ?_
    walk_at "run"
    refine ⟨_, rfl, by rw [sizeLine_eq]; omega, ?_⟩
    walk_at "run"
    rw [hfl]
    refine n_ite (fun h => absurd h (by simp)) (fun _ => ?_)
    walk_at "run"
    refine ⟨_, rfl, by omega, by omega, fun D hDn => ?_⟩
    have hzl : z.cps.toList.length = z.length := Array.length_toList
    have hz122 : ∀ c ∈ z.cps.toList, c ≤ 122 := fun c hc => by
      obtain ⟨r, hr, rfl⟩ := List.mem_map.mp (hz c hc)
      exact (hok.2.2.2 r hr).2.1
    refine lc_it (n := z.length) walk_range (fun i H' => (∀ b u, H6 b = some u → H' b = some u) ∧ H' D = some (.lst ((z.cps.toList.take i).map fun c => V.str ⟨#[c]⟩)))
      ⟨fun b u h => by rw [upd_ne (ne_of_none h hDn)]; exact h, upd_same⟩ (fun _ _ _ _ => trivial) ?_ ?_
    · rintro i x H7 H8 hi ⟨h7, hD7⟩ ⟨rfl, rfl⟩
      walk_at "run"
      refine ⟨rfl, ?_⟩
      walk_at "run"
      have hx := turn_item (i := fi) hi
      obtain ⟨c, hc⟩ : ∃ c, z.cps.toList[i]? = some c := ⟨z.cps.toList[i]'(by omega), by simp [hzl, hi]⟩
      have q0 : 0 ≤ ((0 : Int) + (i : Nat) + fi) % (z.length : Int) := Int.emod_nonneg _ (by omega)
      have q1 : ((0 : Int) + (i : Nat) + fi) % (z.length : Int) < z.length := Int.emod_lt_of_pos _ (by omega)
      refine ⟨_, _, c, rfl, rfl, q0, by omega, by rw [hfl]; exact q1, ?_, ?_⟩
      · rw [← Array.getElem?_toList, Int.zero_add, hx, hc]
      · refine ⟨_, hD7, by rw [List.length_map, List.length_take, sizeLine_eq]; omega, fun b u h => by rw [upd_ne (ne_of_none h hDn)]; exact h7 b u h, ?_⟩
        rw [upd_same, take_snoc hc, List.map_append]
        rfl
    rintro H7 ⟨h7, hD7⟩
    rw [← hzl, List.take_length] at hD7
    walk_at "run"
    refine ⟨z, rfl, by rw [sizeLine_eq]; omega, fun l hl => ?_⟩
    have h8 : ∀ b u, H7 b = some u → upd H7 l (.lst (z.cps.toList.map fun c => V.str ⟨#[c]⟩)) b = some u := fun b u h => by rw [upd_ne (ne_of_none h hl)]; exact h
    refine ⟨.list (z.cps.toList.map fun c => .str ⟨#[c]⟩), .list (z.cps.toList.map fun c => .str ⟨#[c]⟩), .lst (SqL.of (h8 _ _ hD7)) (dpa_strs _), .lst (SqL.of upd_same) (dpa_strs _), sh_strs _ hz122, sh_strs _ hz122, ?_⟩
    rw [SeqAt.eqv_refl _ (SeqAt.canLay_of_shaped (sh_strs _ hz122))]
    walk_at "run"
    refine iteF ?_
    walk_at "run"
    have hS8 : Same H5 (upd H7 l (.lst (z.cps.toList.map fun c => V.str ⟨#[c]⟩))) := fun b u h => h8 b u (h7 b u (hS6 b u h))
    refine call _ (turnS z fi) se _ _ hS8 hfin hfl fun H9 hS9 => ?_
    walk_at "run"
    refine call _ z (fi + se) _ _ hS9 hz rfl fun H10 hS10 => ?_
    rw [turn_turn hz1]
    refine n_ne rfl ⟨_, rfl, ?_⟩
    refine n_ite (fun h => absurd h (by simp)) (fun _ => ?_)
    walk_at "run"
    refine call _ (turnS z fi) (0 - fi) _ _ hS10 hfin hfl fun H11 hS11 => ?_
    rw [turn_back hz1]
    walk_at "run"
    refine n_ite (fun _ => ?_) (fun h => absurd h (by simp))
    walk_at "run"
    refine call _ z ((z.length : Int) * se) _ _ hS11 hz rfl fun H12 hS12 => ?_
    rw [turn_mul hz1]
    walk_at "run"
    rw [decide_eq_true rfl]
    have kf : Kp p H5 H12 := fun b u _ h => hS12 b u h
    refine go H12 ?_ (k05.trans kf)
    obtain ⟨ns, a1, l1, u1, d1, d2, d3⟩ := D5
    exact Dr.mono ⟨ns, a1, l1, u1, hS12 _ _ d1, hS12 _ _ d2, d3⟩ (by omega)
end

section
variable {P : Program} {w : World} {K : PySem.W.Frag} {mg : Str → Option Value} {base : Heap}
def wordV : Option (Bool × V) → List V
  | none => [.str "told"]
  | some (true, x) => [.str "people", x]
  | some (false, x) => [.str "roster", x]
def dueO (way : Int) (d l : PyData) : Option (Bool × V) := if decide (way = 0) = true then outL d l else outG d l
def spWord (K : PySem.W.Frag) : Sp := fun vs H Q _ => ∃ (way : Int) (v : V) (d : PyData) (u : V) (l : PyData), vs = [.int way, v, u] ∧ Dz K H v d ∧ Dz K H u l ∧ dp1 (dp1 txt) d ∧ txt l ∧
  ∀ H' p, Same H H' → H p = none → H' p = some (.lst (wordV (dueO way d l))) → Q (.ref p) H'
theorem scWo : FnScope ["way", "rules", "people", "caught", "e"] ["way", "rules", "people"] (defScope sWord) := ⟨rfl, rfl, rfl, by decide +kernel, rfl, by decide +kernel, by decide +kernel⟩
structure Gw (K : PySem.W.Frag) (mg : Str → Option Value) (C C2 c1 c2 c3 : Addr) : Prop where
  g1 : mg "CrewError" = some (.ref c1)
  g2 : mg "StateError" = some (.ref c2)
  g3 : mg "MissingError" = some (.ref c3)
  m : PySem.W.exmAny K (.ref C) [.ref c1, .ref c2, .ref c3] = some true
  m2 : PySem.W.exmAny K (.ref C2) [.ref c1, .ref c2, .ref c3] = some true
  i22 : PySem.W.kitOne K (.ref C2) (.ref C2) = some true
  i12 : PySem.W.kitOne K (.ref C) (.ref C2) = some false
  i11 : PySem.W.kitOne K (.ref C) (.ref C) = some true
theorem ok_word {f fC fT C C2 c1 c2 c3 fI fI2 : Addr} {fd fdC fdT : FuncData} (F : Fun K "_law_word" "_law_word" sWord f fd) (G : Gw K mg C C2 c1 c2 c3) (mI : mg "isinstance" = none)
    (T : Ec K mg "InvalidRoster" C fI "entry") (T2 : Ec K mg "InvalidPeople" C2 fI2 "place")
    (NC : FnG P w K mg base 6 fC fdC ["roster", "line"] (spCounts K C C2)) (mC : mg "counts_of" = some (.ref fC)) (kC : PySem.W.keepIn K (.ref fC) = true) (kbC : KBinds K fdC ["roster", "line"] ["line", "roster"] (fun us ws => us ++ ws.reverse) (fun us ws => us ++ ws.reverse))
    (NT : FnG P w K mg base 7 fT fdT ["roster", "ring", "by"] (spTurned K C C2)) (mT : mg "turned" = some (.ref fT)) (kT : PySem.W.keepIn K (.ref fT) = true) (bT : Binds K fdT ["roster", "ring", "by"] []) :
    FnG P w K mg base 8 f fd ["way", "rules", "people"] (spWord K) := by
  refine def_ok F scWo (fun vs H Q E h => ?_) (fun cdv A fr s H vs Q E c h => ?_)
  · obtain ⟨_, _, _, _, _, rfl, _⟩ := h
    rfl
  · obtain ⟨way, v, d, u, l, rfl, hd, hu, ht, hl, go⟩ := h
    refine ⟨_, pss_cons (ps_set (i := 3) scWo.nd rfl (Or.inl rfl) pe_non)
      (pss_cons (ps_keep (i := 4) rfl rfl rfl scWo.nd rfl rfl rfl G.g1 rfl G.g2 rfl G.g3
        (fun W pn xe tk => pss_one (ps_if (pt_cmpR op_eq (pv 0) pe_int (nomark _)) (pss_one (ps_expr (pe_gk0 NC (c.mono (by decide)) rfl mC kC kbC (fun σ => passAt tk σ) (pk_cons (pv 2) (pk_cons (pv 1) pk_nil)))))
          (pss_one (ps_expr (pe_g NT c rfl mT kT bT (fun σ => passAt tk σ) (pa_cons (pv 1) (pa_cons (pv 2) (pa_cons pe_int pa_nil))))))))
        (fun a pn => pss_one (ps_set (i := 3) scWo.nd rfl (Or.inl rfl) (pv 4))))
      (pss_cons (ps_if (pt_cmpR op_isN (pv 3) pe_non (nomark _)) (pss_one (ps_ret (pe_lst (pa_cons pe_str pa_nil)))) pss_nil)
      (pss_cons (ps_if (pt_val (pe_callB call_isx (by rfl) mI (by decide +kernel) (pa_cons (pv 3) (pa_cons (pe_glob (v := .ref C2) rfl T2.gC rfl) pa_nil)))) (pss_one (ps_ret (pe_lst (pa_cons pe_str (pa_cons (pe_xo (pv 3)) pa_nil))))) pss_nil)
      (pss_one (ps_ret (pe_ifExp (pt_val (pe_callB call_isx (by rfl) mI (by decide +kernel) (pa_cons (pv 3) (pa_cons (pe_glob (v := .ref C) rfl T.gC rfl) pa_nil)))) (pe_lst (pa_cons pe_str (pa_cons (pe_xo (pv 3)) pa_nil))) (pe_lst (pa_cons pe_str pa_nil)))))))), ?_⟩
    walk_at "run"
    have ed : decide (V.int way = V.int 0) = decide (way = 0) := by rw [Bool.eq_iff_iff]; simp
    rw [ed]
    refine n_ite (fun h0 => ?_) (fun h0 => ?_)
    · have eo : dueO way d l = outL d l := if_pos h0
      walk_at "run"
      refine ⟨v, d, u, l, rfl, hd, hu, ht, hl, ?_⟩
      cases e : outL d l with
      | none =>
        intro H' q hS hq hqv
        walk_at "run"
        refine ⟨rfl, ?_⟩
        walk_at "run"
        refine n_ite (fun _ => ?_) (fun h => absurd h (by simp))
        walk_at "run"
        refine ⟨(by show 1 ≤ sizeLine; decide), fun r hr => ?_⟩
        refine go _ r (same_tr hS (same_new hr)) (same_none hS hr) ?_
        rw [eo, e]
        exact upd_same
      | some o =>
        obtain ⟨b, x⟩ := o
        cases b with
        | true =>
          intro H' dx hS hdx hxd
          refine ⟨G.m2, fun a ha => ?_⟩
          have nd : dx ≠ a := ne_of_none hxd ha
          have hxd2 : upd H' a (Xo a (.ref C2) (some dx)) dx = some (.xd [("place", x)]) := by rw [upd_ne nd]; exact hxd
          walk_at "run"
          refine ⟨rfl, ?_⟩
          walk_at "run"
          refine n_ite (fun h => absurd h (by simp)) (fun _ => ?_)
          walk_at "run"
          refine ⟨a, C2, dx, _, .ref C2, .ref C2, true, rfl, .own C2, upd_same, hxd2, T2.ec, G.i22, ?_⟩
          walk_at "run"
          refine ⟨a, C2, dx, _, x, rfl, upd_same, hxd2, T2.xf, T2.nf, rfl, ?_⟩
          walk_at "run"
          refine ⟨(by show 2 ≤ sizeLine; decide), fun r hr => ?_⟩
          refine go _ r (same_tr (same_tr hS (same_new ha)) (same_new hr)) (same_none (same_tr hS (same_new ha)) hr) ?_
          rw [eo, e]
          exact upd_same
        | false =>
          intro H' dx hS hdx hxd
          refine ⟨G.m, fun a ha => ?_⟩
          have nd : dx ≠ a := ne_of_none hxd ha
          have hxd2 : upd H' a (Xo a (.ref C) (some dx)) dx = some (.xd [("entry", x)]) := by rw [upd_ne nd]; exact hxd
          walk_at "run"
          refine ⟨rfl, ?_⟩
          walk_at "run"
          refine n_ite (fun h => absurd h (by simp)) (fun _ => ?_)
          walk_at "run"
          refine ⟨a, C, dx, _, .ref C2, .ref C2, false, rfl, .own C2, upd_same, hxd2, T.ec, G.i12, ?_⟩
          walk_at "run"
          refine ⟨a, C, dx, _, .ref C, .ref C, true, rfl, .own C, upd_same, hxd2, T.ec, G.i11, ?_⟩
          walk_at "run"
          refine ⟨a, C, dx, _, x, rfl, upd_same, hxd2, T.xf, T.nf, rfl, ?_⟩
          walk_at "run"
          refine ⟨(by show 2 ≤ sizeLine; decide), fun r hr => ?_⟩
          refine go _ r (same_tr (same_tr hS (same_new ha)) (same_new hr)) (same_none (same_tr hS (same_new ha)) hr) ?_
          rw [eo, e]
          exact upd_same
    · have eo : dueO way d l = outG d l := if_neg (by rw [h0]; decide)
      walk_at "run"
      refine ⟨v, d, u, l, _, rfl, hd, hu, ht, hl, ?_⟩
      cases e : outG d l with
      | none =>
        intro H' hS
        walk_at "run"
        refine ⟨rfl, ?_⟩
        walk_at "run"
        refine n_ite (fun _ => ?_) (fun h => absurd h (by simp))
        walk_at "run"
        refine ⟨(by show 1 ≤ sizeLine; decide), fun r hr => ?_⟩
        refine go _ r (same_tr hS (same_new hr)) (same_none hS hr) ?_
        rw [eo, e]
        exact upd_same
      | some o =>
        obtain ⟨b, x⟩ := o
        cases b with
        | true =>
          intro H' dx hS hdx hxd
          refine ⟨G.m2, fun a ha => ?_⟩
          have nd : dx ≠ a := ne_of_none hxd ha
          have hxd2 : upd H' a (Xo a (.ref C2) (some dx)) dx = some (.xd [("place", x)]) := by rw [upd_ne nd]; exact hxd
          walk_at "run"
          refine ⟨rfl, ?_⟩
          walk_at "run"
          refine n_ite (fun h => absurd h (by simp)) (fun _ => ?_)
          walk_at "run"
          refine ⟨a, C2, dx, _, .ref C2, .ref C2, true, rfl, .own C2, upd_same, hxd2, T2.ec, G.i22, ?_⟩
          walk_at "run"
          refine ⟨a, C2, dx, _, x, rfl, upd_same, hxd2, T2.xf, T2.nf, rfl, ?_⟩
          walk_at "run"
          refine ⟨(by show 2 ≤ sizeLine; decide), fun r hr => ?_⟩
          refine go _ r (same_tr (same_tr hS (same_new ha)) (same_new hr)) (same_none (same_tr hS (same_new ha)) hr) ?_
          rw [eo, e]
          exact upd_same
        | false =>
          intro H' dx hS hdx hxd
          refine ⟨G.m, fun a ha => ?_⟩
          have nd : dx ≠ a := ne_of_none hxd ha
          have hxd2 : upd H' a (Xo a (.ref C) (some dx)) dx = some (.xd [("entry", x)]) := by rw [upd_ne nd]; exact hxd
          walk_at "run"
          refine ⟨rfl, ?_⟩
          walk_at "run"
          refine n_ite (fun h => absurd h (by simp)) (fun _ => ?_)
          walk_at "run"
          refine ⟨a, C, dx, _, .ref C2, .ref C2, false, rfl, .own C2, upd_same, hxd2, T.ec, G.i12, ?_⟩
          walk_at "run"
          refine ⟨a, C, dx, _, .ref C, .ref C, true, rfl, .own C, upd_same, hxd2, T.ec, G.i11, ?_⟩
          walk_at "run"
          refine ⟨a, C, dx, _, x, rfl, upd_same, hxd2, T.xf, T.nf, rfl, ?_⟩
          walk_at "run"
          refine ⟨(by show 2 ≤ sizeLine; decide), fun r hr => ?_⟩
          refine go _ r (same_tr (same_tr hS (same_new ha)) (same_new hr)) (same_none (same_tr hS (same_new ha)) hr) ?_
          rw [eo, e]
          exact upd_same
end

/-! ### the law -/
theorem show_one : ∀ n : Nat, n < 13 → PyData.weight (.int (n : Nat)) ≤ 4 ∧ PyData.showable (.int (n : Nat)) = true ∧ PyData.intsShort 13 (.int (n : Nat)) = true := by decide +kernel
theorem show_ints : ∀ (ns : List Nat), (∀ n ∈ ns, n ≤ 12) → PyData.canLayAll0 (ns.map fun (n : Nat) => .int n) = true ∧ PyData.depthAll (ns.map fun (n : Nat) => .int n) = 0 ∧ PyData.weightAll (ns.map fun (n : Nat) => .int n) ≤ 5 * ns.length ∧
    PyData.showableAll (ns.map fun (n : Nat) => .int n) = true ∧ PyData.intsShortAll 13 (ns.map fun (n : Nat) => .int n) = true
  | [], _ => ⟨rfl, rfl, Nat.le_refl _, rfl, rfl⟩
  | n :: ns, h => by
    obtain ⟨h1, h2, h3, h4, h5⟩ := show_ints ns fun x hx => h x (List.mem_cons_of_mem _ hx)
    have hn := h n List.mem_cons_self
    obtain ⟨w1, w2, w3⟩ := show_one n (by omega)
    refine ⟨?_, ?_, ?_, ?_, ?_⟩
    · rw [List.map_cons, PyData.canLayAll0, h1]
      rfl
    · rw [List.map_cons, PyData.depthAll, h2]
      rfl
    · rw [List.map_cons, PyData.weightAll, List.length_cons]
      omega
    · rw [List.map_cons, PyData.showableAll, h4, w2]
      rfl
    · rw [List.map_cons, PyData.intsShortAll, h5, w3]
      rfl
theorem show_tup (ns : List Nat) (h : ∀ n ∈ ns, n ≤ 12) (hl : ns.length ≤ 4) : (PyData.tuple (ns.map fun (n : Nat) => .int n)).showable = true ∧ (PyData.tuple (ns.map fun (n : Nat) => .int n)).depth ≤ 40 ∧ (PyData.tuple (ns.map fun (n : Nat) => .int n)).shown.length ≤ sizeLine := by
  obtain ⟨h1, h2, h3, h4, h5⟩ := show_ints ns h
  have e : PyData.depth (.tuple (ns.map fun (n : Nat) => .int n)) = 1 := by rw [PyData.depth, h2]
  refine ⟨by rw [PyData.showable]; exact h4, by rw [e]; decide, ?_⟩
  refine Nat.le_trans (shown_le13 (d := PyData.tuple (ns.map fun (n : Nat) => .int n)) ?_ ?_) (by rw [sizeLine_eq]; decide)
  · unfold PyData.layable0
    rw [e, PyData.canLay0, h1, PyData.weight]
    simp only [Bool.true_and]
    rw [decide_eq_true (show 1 ≤ 64 by decide), decide_eq_true (by omega : PyData.weightAll (ns.map fun (n : Nat) => .int n) ≤ 2 ^ 20)]
    rfl
  · rw [PyData.intsShort]
    exact h5
theorem dza_ints {K : PySem.W.Frag} {H : Hp} : ∀ (ns : List Nat), DzA K H (ns.map fun n => V.int (n : Nat)) (ns.map fun n => .int (n : Nat))
  | [] => .nil
  | n :: ns => .cons (.int _) (dza_ints ns)
/-- how many of each badge -/
def cnts (rs : List (Nat × Int)) (z : Str) : List Nat := rs.map fun r => z.cps.toList.count r.1
theorem cnts_le {rs : List (Nat × Int)} {z : Str} (hz : z.length ≤ 12) : ∀ n ∈ cnts rs z, n ≤ 12 := fun n hn => by
  obtain ⟨r, _, rfl⟩ := List.mem_map.mp hn
  have := List.count_le_length (a := r.1) (l := z.cps.toList)
  have e : z.cps.toList.length = z.length := Array.length_toList
  omega
theorem sum_zeros : ∀ (bs : List Nat), (bs.map fun _ => (0 : Int)).sum = 0
  | [] => rfl
  | _ :: r => by
    rw [List.map_cons, List.sum_cons, sum_zeros r]
    rfl
/-- all people have badges: the counts add up -/
theorem sum_counts : ∀ (bs l : List Nat), bs.Nodup → (∀ c ∈ l, c ∈ bs) → ((bs.map fun b => ((l.count b : Nat) : Int)).sum) = l.length
  | bs, [], _, _ => by
    have : (bs.map fun b => ((([] : List Nat).count b : Nat) : Int)) = bs.map fun _ => 0 := rfl
    rw [this]
    exact sum_zeros bs
  | bs, c :: l, nd, h => by
    have ih := sum_counts bs l nd fun x hx => h x (List.mem_cons_of_mem _ hx)
    have e : (bs.map fun b => (((c :: l).count b : Nat) : Int)).sum = (bs.map fun b => ((l.count b : Nat) : Int)).sum + 1 := by
      have hc := h c List.mem_cons_self
      clear ih h
      induction bs with
      | nil => cases hc
      | cons b r ih2 =>
        rw [List.map_cons, List.map_cons, List.sum_cons, List.sum_cons]
        obtain ⟨nb, nr⟩ := List.nodup_cons.mp nd
        by_cases hb : c = b
        · subst hb
          have er : (r.map fun b => (((c :: l).count b : Nat) : Int)) = r.map fun b => ((l.count b : Nat) : Int) := List.map_congr_left fun x hx => by
            rw [List.count_cons_of_ne]
            intro q
            exact nb (q ▸ hx)
          rw [er, List.count_cons_self]
          omega
        · have hr : c ∈ r := by
            rcases List.mem_cons.mp hc with q | q
            · exact absurd q hb
            · exact q
          rw [ih2 nr hr, List.count_cons_of_ne hb]
          omega
    rw [e, ih, List.length_cons]
    omega
theorem sum_cnts {rs : List (Nat × Int)} {z : Str} (h : okR rs) (hz : inR rs z) : ((cnts rs z).map fun n => ((n : Nat) : Int)).sum = z.length := by
  have nd : (rs.map (·.1)).Nodup := by
    have hp := h.2.2.1
    refine List.Pairwise.map _ (fun a b hab => ?_) hp
    omega
  have := sum_counts (rs.map fun (r : Nat × Int) => r.1) z.cps.toList nd hz
  have e : z.cps.toList.length = z.length := Array.length_toList
  rw [e] at this
  rw [← this]
  unfold cnts
  rw [List.map_map, List.map_map]
  rfl
/-! the wrong ones -/
theorem ro_dup {rs : List (Nat × Int)} {r : Nat × Int} (h : okR rs) (hr : rs.getLast? = some r) : faultD (roD (rs ++ [r])) = some (if rs.length < 4 then .int (rs.length : Nat) else .non) := by
  obtain ⟨n1, n4, hp, hb⟩ := h
  have e : faultD (roD (rs ++ [r])) = (if (decide (1 ≤ (((rs ++ [r]).map enD).length : Int)) && decide ((((rs ++ [r]).map enD).length : Int) ≤ 4)) = true then (faultAt 0 [] ((rs ++ [r]).map enD)).map (fun i => V.int (i : Nat)) else some .non) := rfl
  rw [e, List.length_map, List.length_append, List.length_singleton]
  by_cases h4 : rs.length < 4
  · rw [if_pos h4, decide_eq_true (by omega : (1 : Int) ≤ ((rs.length + 1 : Nat) : Int)), decide_eq_true (by omega : ((rs.length + 1 : Nat) : Int) ≤ 4), if_pos (show (true && true) = true from rfl), List.map_append,
      fault_snoc (fault_ok hb hp fun r _ => List.nil_lt_cons _ _)]
    have e2 : (((rs.map enD).getLast?.map headS).getD []) = [r.1] := by
      rw [List.getLast?_map, hr]
      rfl
    rw [e2, List.length_map, Nat.zero_add]
    have g : goodE [r.1] (enD r) = false := by
      unfold goodE
      rw [show headS (enD r) = [r.1] from rfl, decide_eq_false (fun q => by have := lt_one.mp q; omega : ¬ [r.1] < [r.1]), Bool.and_false]
    show Option.map _ (if goodE [r.1] (enD r) = true then _ else some rs.length) = _
    rw [g, if_neg (by decide)]
    rfl
  · rw [if_neg h4, if_neg]
    rw [decide_eq_false (by omega : ¬ ((rs.length + 1 : Nat) : Int) ≤ 4), Bool.and_false]
    decide
def badZ (z : Str) : Str := cutS z none (some 11) ++ ("A" : Str)
theorem bad_list (z : Str) : (badZ z).cps.toList = z.cps.toList.take 11 ++ [65] := by
  unfold badZ
  rw [cps_toList_append, cut_lo (by decide)]
  rfl
theorem bad_len {z : Str} (hz : z.length ≤ 12) : 1 ≤ (badZ z).length ∧ (badZ z).length ≤ 12 := by
  have e : (badZ z).cps.toList.length = (badZ z).length := Array.length_toList
  rw [bad_list, List.length_append, List.length_take, List.length_singleton] at e
  omega
theorem bad_line {rs : List (Nat × Int)} {z : Str} (h : okR rs) (hz : inR rs z) (hl : z.length ≤ 12) : outL (roD rs) (.str (badZ z)) = some (true, .int ((badZ z).length - 1)) := by
  obtain ⟨b1, b2⟩ := bad_len hl
  have e : (badZ z).cps.toList.length = (badZ z).length := Array.length_toList
  have e2 : ((badZ z).cps.toList.findIdx? fun c => !decide (c ∈ (badgesD (roD rs)).cps.toList)) = some ((badZ z).length - 1) := by
    have el : (z.cps.toList.take 11).length = (badZ z).length - 1 := by
      rw [← e, bad_list, List.length_append, List.length_singleton]
      omega
    rw [ro_badges, List.findIdx?_eq_some_iff_getElem]
    refine ⟨by omega, ?_, fun j hj => ?_⟩
    · have : (badZ z).cps.toList[(badZ z).length - 1]'(by omega) = 65 := by
        simp only [bad_list]
        rw [List.getElem_append_right (by omega)]
        simp
      rw [this]
      have : 65 ∉ rs.map (·.1) := fun q => by
        obtain ⟨r, hr, e⟩ := List.mem_map.mp q
        have := (h.2.2.2 r hr).1
        omega
      rw [decide_eq_false this]
      rfl
    · have : (badZ z).cps.toList[j]'(by omega) ∈ z.cps.toList := by
        simp only [bad_list]
        rw [List.getElem_append_left (by omega)]
        exact List.mem_of_mem_take (List.getElem_mem _)
      rw [decide_eq_true (hz _ this)]
      decide
  unfold outL
  rw [ro_good h]
  show Option.map _ (if decide (12 < ((badZ z).length : Int)) = true then some V.non else _) = _
  rw [if_neg (by rw [decide_eq_true_eq]; omega)]
  show Option.map _ (Option.map _ ((badZ z).cps.toList.findIdx? fun c => !decide (c ∈ (badgesD (roD rs)).cps.toList))) = _
  rw [e2]
  show some (true, V.int (((badZ z).length - 1 : Nat) : Int)) = _
  congr 3
  omega
theorem out_some {d l : PyData} {o : Bool × V} (h : outL d l = some o) : outG d l = some o := by
  unfold outG
  rw [h]

theorem words_lc {te : TE} {σ : L2.St} {vs : List Nat} {k : Nat} {H0 : Hp} {D : Addr} {d l : PyData} {Qd : Hp → Prop} (hD : H0 D = none) (hw : ∀ (v : V), wipe ((wipe σ vs).set k (some v)) vs = wipe σ vs)
    (ht : ∀ (i : Nat) (H : Hp) (Q : VK), Same H0 H → (∀ H' p, Same H H' → H p = none → H' p = some (.lst (wordV (dueO ((0 : Int) + i) d l))) → Q (.ref p) H') → te ((wipe σ vs).set k (some (.int ((0 : Int) + i)))) H Q)
    (hd : ∀ H' p0 p1, Same H0 H' → H' D = some (.lst [.ref p0, .ref p1]) → H' p0 = some (.lst (wordV (dueO 0 d l))) → H' p1 = some (.lst (wordV (dueO 1 d l))) → Qd H') :
    ∃ W : Nat → Nat → Hp → Prop, (∃ m, W 0 m (upd H0 D (.lst []))) ∧ ∀ i m H, W i m H →
      ((Itr 0 2).stop i H ∧ Qd H) ∨ ((Itr 0 2).go i H ∧ ∃ Nx : Hp → Prop, (∀ H', Nx H' → ∃ m', m' < m ∧ W (i + 1) m' H') ∧ ∀ x H', (Itr 0 2).yld i H x H' → gName k x (wipe σ vs) H' fun σ2 H2 => wipe σ2 vs = wipe σ vs ∧ tYes σ2 H2 fun b H3 =>
        if b = true then te σ2 H3 fun y H4 => ∃ acc, H4 D = some (.lst acc) ∧ acc.length < sizeLine ∧ Nx (upd H4 D (.lst (acc ++ [y]))) else Nx H3) := by
  refine lc_it (n := 2) walk_range (fun i H' => Same H0 H' ∧ ∃ ps : List Addr, H' D = some (.lst (ps.map V.ref)) ∧ ps.length = i ∧ ∀ (j : Nat) q, ps[j]? = some q → q ≠ D ∧ H' q = some (.lst (wordV (dueO ((0 : Int) + (j : Nat)) d l))))
    ⟨same_new hD, [], upd_same, rfl, fun j q hq => by simp at hq⟩ (fun _ _ _ _ => trivial) ?_ ?_
  · rintro i x H H' hi ⟨hS, ps, hDl, hl, hps⟩ ⟨rfl, rfl⟩
    refine ⟨hw _, n_yes (iteT ?_)⟩
    refine ht i H' _ hS fun H4 p h4 hp hv => ⟨_, h4 _ _ hDl, ?_, fun b u q => ?_, ps ++ [p], ?_, by rw [List.length_append, hl]; rfl, fun j q hq => ?_⟩
    · rw [List.length_map, hl, sizeLine_eq]
      omega
    · have nb : b ≠ D := ne_of_none q hD
      rw [upd_ne nb]
      exact h4 b u (hS b u q)
    · rw [upd_same, List.map_append]
      rfl
    · by_cases hj : j < ps.length
      · rw [List.getElem?_append_left hj] at hq
        obtain ⟨n1, n2⟩ := hps j q hq
        exact ⟨n1, by rw [upd_ne n1]; exact h4 q _ n2⟩
      · rw [List.getElem?_append_right (by omega)] at hq
        have e : j - ps.length = 0 := by
          rcases Nat.eq_zero_or_pos (j - ps.length) with h | h
          · exact h
          · rw [List.getElem?_eq_none (by simp; omega)] at hq
            cases hq
        rw [e] at hq
        cases hq
        have nd : D ≠ p := ne_of_none hDl hp
        refine ⟨Ne.symm nd, ?_⟩
        rw [upd_ne (Ne.symm nd), hv, show j = i by omega]
  · rintro H' ⟨hS, ps, hDl, hl, hps⟩
    match ps, hl with
    | [p0, p1], _ => exact hd H' p0 p1 hS hDl (hps 0 p0 rfl).2 (hps 1 p1 rfl).2
theorem dp2 {K : PySem.W.Frag} {H : Hp} {D p0 p1 : Addr} {l0 l1 : List V} {d0 d1 : List PyData} (h : H D = some (.lst [.ref p0, .ref p1])) (h0 : H p0 = some (.lst l0)) (h1 : H p1 = some (.lst l1)) (a0 : DpAll K H l0 d0) (a1 : DpAll K H l1 d1) : Dp K H (.ref D) (.list [.list d0, .list d1]) :=
  .lst (SqL.of h) (.cons (.lst (SqL.of h0) a0) (.cons (.lst (SqL.of h1) a1) .nil))
theorem paired_last {α β : Type} {F : α → β → Prop} : ∀ {l₁ : List α} {l₂ : List β}, Paired F l₁ l₂ → l₂ ≠ [] → ∃ a1 x b1 y, l₁ = a1 ++ [x] ∧ l₂ = b1 ++ [y] ∧ F x y
  | _, _, .nil, h => absurd rfl h
  | _, _, .cons (a := x) (b := y) r .nil, _ => ⟨[], _, [], _, rfl, rfl, r⟩
  | _, _, .cons r (.cons r2 t), _ => by
    obtain ⟨a1, x, b1, y, e1, e2, f⟩ := paired_last (.cons r2 t) (by simp)
    exact ⟨_ :: a1, x, _ :: b1, y, by rw [e1]; rfl, by rw [e2]; rfl, f⟩
theorem sIx_m1 (n : Nat) : HT.sIx (n + 1) 0 (some (-(1 : Int))) = n := by
  show (if -(1 : Int) < 0 then (-(1 : Int) + ((n + 1 : Nat) : Int)).toNat else min (-(1 : Int)).toNat (n + 1)) = n
  rw [if_pos (by decide)]
  omega
theorem cut_last (xs : List V) (x : V) : cutV (xs ++ [x]) (some (-(1 : Int))) none = [x] := by
  have e : (xs ++ [x]).length = xs.length + 1 := by simp
  unfold cutV
  rw [e, sIx_m1]
  show ((xs ++ [x]).drop xs.length).take (xs.length + 1 - xs.length) = [x]
  simp
def words2 (x : PyData) (t : Str) : PyData := .list [.list [.str t, x], .list [.str t, x]]
theorem ne_same {d : PyData} (h : SeqAt.shaped d = true) : (!PyData.eqv d d) = false := by rw [SeqAt.eqv_refl _ (SeqAt.canLay_of_shaped h)]; rfl
theorem shaped2 (n : Int) : SeqAt.shaped (words2 (.int n) "people") = true := by
  unfold SeqAt.shaped words2
  simp [PyData.canLay0, PyData.canLayAll0, PyData.depth, PyData.depthAll]
  decide +kernel
theorem shaped3 (n : Int) : SeqAt.shaped (words2 (.int n) "roster") = true := by
  unfold SeqAt.shaped words2
  simp [PyData.canLay0, PyData.canLayAll0, PyData.depth, PyData.depthAll]
  decide +kernel
theorem shaped4 : SeqAt.shaped (words2 .none "roster") = true := by decide +kernel
theorem shaped5 : SeqAt.shaped (.list [.list [.str "told"], .list [.str "people", .none]]) = true := by decide +kernel
def spLaw (K : PySem.W.Frag) : Sp := fun vs H Q _ => ∃ (a : Addr) (ns : List Int), vs = [.ref a] ∧ SqL K H a (ns.map V.int) ∧ ns.length ≤ 63 ∧ ∀ H', Q (.bl true) H'
def lawN : List Str := ["script", "draw", "turn", "rules", "people", "due", "wrong", "entry", "mark", "size", "way"]
theorem scLaw : FnScope ["script", "draw", "turn", "rules", "people", "due", "wrong", "entry", "mark", "size", "way"] ["script"] (defScope sLaw) := ⟨rfl, rfl, rfl, by decide +kernel, rfl, by decide +kernel, by decide +kernel⟩
structure Gl4 (mg : Str → Option Value) (fBe fRo fLi fCo fCs fTR fW : Addr) : Prop where
  be : mg "_law_begin" = some (.ref fBe)
  ro : mg "_law_roster" = some (.ref fRo)
  li : mg "_law_line" = some (.ref fLi)
  co : mg "_law_count" = some (.ref fCo)
  cs : mg "counts_of" = some (.ref fCs)
  tr : mg "_law_turned_right" = some (.ref fTR)
  wo : mg "_law_word" = some (.ref fW)
  range : mg "range" = none
  min : mg "min" = none
  len : mg "len" = none
  tuple : mg "tuple" = none
  repr : mg "repr" = none
  sum : mg "sum" = none
section
variable {P : Program} {w : World} {K : PySem.W.Frag} {mg : Str → Option Value} {base : Heap}
theorem ok_law {f fBe fRo fLi fCo fCs fTR fW C C2 : Addr} {fd dBe dRo dLi dCo dCs dTR dW : FuncData} (F : Fun K "law" "law" sLaw f fd) (G : Gl4 mg fBe fRo fLi fCo fCs fTR fW)
    (NBe : FnG P w K mg base 1 fBe dBe ["script"] (spBegin K)) (kBe : PySem.W.keepIn K (.ref fBe) = true) (bBe : Binds K dBe ["script"] [])
    (NRo : FnG P w K mg base 3 fRo dRo ["draw"] spRoster) (kRo : PySem.W.keepIn K (.ref fRo) = true) (bRo : Binds K dRo ["draw"] [])
    (NLi : FnG P w K mg base 3 fLi dLi ["draw", "rules", "most"] spLine) (kLi : PySem.W.keepIn K (.ref fLi) = true) (bLi : Binds K dLi ["draw", "rules", "most"] [])
    (NCo : FnG P w K mg base 1 fCo dCo ["people", "mark"] spCount) (kCo : PySem.W.keepIn K (.ref fCo) = true) (bCo : Binds K dCo ["people", "mark"] [])
    (NCs : FnG P w K mg base 6 fCs dCs ["roster", "line"] (spCounts K C C2)) (kCs : PySem.W.keepIn K (.ref fCs) = true) (bCs : Binds K dCs ["roster", "line"] [])
    (NTR : FnG P w K mg base 8 fTR dTR ["draw", "rules", "people"] spTR) (kTR : PySem.W.keepIn K (.ref fTR) = true) (bTR : Binds K dTR ["draw", "rules", "people"] [])
    (NW : FnG P w K mg base 8 fW dW ["way", "rules", "people"] (spWord K)) (kW : PySem.W.keepIn K (.ref fW) = true) (bW : Binds K dW ["way", "rules", "people"] []) :
    FnG P w K mg base 9 f fd ["script"] (spLaw K) := by
  refine def_ok F scLaw (fun vs H Q E h => ?_) (fun cdv A fr s H vs Q E c h => ?_)
  · obtain ⟨_, _, rfl, _⟩ := h
    rfl
  · obtain ⟨a, ns, rfl, hs, hns, go⟩ := h
    have c1 : Calm 1 _ := c.mono (by decide)
    have c3 : Calm 3 _ := c.mono (by decide)
    have c6 : Calm 6 _ := c.mono (by decide)
    have hu := c.room.units
    refine ⟨_, pss_cons (ps_set (i := 1) scLaw.nd rfl (Or.inl rfl) (pe_g NBe c1 rfl G.be kBe bBe quiets (pa_cons (pv 0) pa_nil)))
      (pss_cons (ps_for (passes_of rfl) rfl (pi_range1 rfl G.range (pa_cons (pe_callB (call_min2 rfl) (by rfl) G.min (by decide +kernel) (pa_cons pe_int (pa_cons (pe_op op_add pe_int (pe_callB call_len_seq (by rfl) G.len PySem.boot_len (pa_cons (pv 0) pa_nil))) pa_nil))) pa_nil)) (pg_name (i := 2) scLaw.nd rfl (Or.inl rfl))
        (pss_cons (ps_set (i := 3) scLaw.nd rfl (Or.inr rfl) (pe_g NRo c3 rfl G.ro kRo bRo quiets (pa_cons (pv 1) pa_nil)))
        (pss_cons (ps_set (i := 4) scLaw.nd rfl (Or.inr rfl) (pe_g NLi c3 rfl G.li kLi bLi quiets (pa_cons (pv 1) (pa_cons (pv 3) (pa_cons pe_int pa_nil)))))
        (pss_cons (ps_set (i := 5) scLaw.nd rfl (Or.inl rfl) (pe_callTy call_tuple_of (by rfl) G.tuple (by decide +kernel) (pa_cons (pe_lc (own := [("mark", 8), ("size", 9)]) (g := gTup K 2 (gCons (gName 8) (gCons (gName 9) gNil))) (tt := tYes) (te := tCallS spCount E00 (tCons (tVar 4) (tCons (tVar 8) tNil))) rfl scLaw.nd (pi_tup (pv 3))
            (blkOk_by (N := lawN) (sc := defScope sLaw) (by decide +kernel)) (fun _ _ _ _ _ => pg_tup rfl (pgs_cons (pg_name (i := 8) scLaw.nd rfl (Or.inl rfl)) (pgs_cons (pg_name (i := 9) scLaw.nd rfl (Or.inl rfl)) pgs_nil))) (fun _ _ _ _ _ => pts_nil)
            (fun _ _ _ _ _ => pe_g NCo c1 rfl G.co kCo bCo quiets (pa_cons (pv 4) (pa_cons (pv 8) pa_nil)))) pa_nil)))
        (pss_cons (ps_if (PW.pt (pw_or (pt_cmpR op_ne (pe_callB (call_repr c) (by rfl) G.repr (by decide +kernel) (pa_cons (pe_g NCs c6 rfl G.cs kCs bCs quiets (pa_cons (pv 3) (pa_cons (pv 4) pa_nil))) pa_nil)) (pe_callB (call_repr c) (by rfl) G.repr (by decide +kernel) (pa_cons (pv 5) pa_nil)) (nomark _))
              (pw_or1 (pt_cmpR op_ne (pe_callB (call_sumT rfl) (by rfl) G.sum (by decide +kernel) (pa_cons (pv 5) pa_nil)) (pe_callB call_len_str (by rfl) G.len PySem.boot_len (pa_cons (pv 4) pa_nil)) (nomark _)))))
          (pss_one (ps_ret pe_bl)) pss_nil)
        (Evl.pss_cut (ps_if (PW.pt (pw_and (pt_cmpR op_ne (pv 4) pe_str (nomark _)) (pw_and1 (pt_not (pt_val (pe_g NTR c rfl G.tr kTR bTR quiets (pa_cons (pv 1) (pa_cons (pv 3) (pa_cons (pv 4) pa_nil)))))))))
          (pss_one (ps_ret pe_bl)) pss_nil)
        (pss_cons (ps_if (pt_cmpR (op_neD hu) (pe_lc (own := [("way", 10)]) (g := gName 10) (tt := tYes) (te := tCallS (spWord K) E00 (tCons (tVar 10) (tCons (tVar 3) (tCons (tC (.str "")) tNil)))) rfl scLaw.nd (pi_range1 rfl G.range (pa_cons pe_int pa_nil)) (blkOk_by (N := lawN) (sc := defScope sLaw) (by decide +kernel))
              (fun _ _ _ _ _ => pg_name (i := 10) scLaw.nd rfl (Or.inl rfl)) (fun _ _ _ _ _ => pts_nil) (fun _ _ _ _ _ => pe_g NW c rfl G.wo kW bW quiets (pa_cons (pv 10) (pa_cons (pv 3) (pa_cons pe_str pa_nil)))))
            (pe_lst (pa_cons (pe_lst (pa_cons pe_str pa_nil)) (pa_cons (pe_lst (pa_cons pe_str (pa_cons pe_non pa_nil))) pa_nil))) (nomark _))
          (pss_one (ps_ret pe_bl)) pss_nil)
        (pss_cons (ps_set (i := 6) scLaw.nd rfl (Or.inr rfl) (pe_op op_add_str (pe_slice sl_str (pv 4) po_none (po_some pe_int)) pe_str))
        (pss_cons (ps_if (pt_cmpR (op_neD hu) (pe_lc (own := [("way", 10)]) (g := gName 10) (tt := tYes) (te := tCallS (spWord K) E00 (tCons (tVar 10) (tCons (tVar 3) (tCons (tVar 6) tNil)))) rfl scLaw.nd (pi_range1 rfl G.range (pa_cons pe_int pa_nil)) (blkOk_by (N := lawN) (sc := defScope sLaw) (by decide +kernel))
              (fun _ _ _ _ _ => pg_name (i := 10) scLaw.nd rfl (Or.inl rfl)) (fun _ _ _ _ _ => pts_nil) (fun _ _ _ _ _ => pe_g NW c rfl G.wo kW bW quiets (pa_cons (pv 10) (pa_cons (pv 3) (pa_cons (pv 6) pa_nil)))))
            (pe_op op_rep (pe_lst (pa_cons (pe_lst (pa_cons pe_str (pa_cons (pe_op op_sub (pe_callB call_len_str (by rfl) G.len PySem.boot_len (pa_cons (pv 6) pa_nil)) pe_int) pa_nil))) pa_nil)) pe_int) (nomark _))
          (pss_one (ps_ret pe_bl)) pss_nil)
        (Evl.pss_cut (ps_set (i := 7) scLaw.nd rfl (Or.inl rfl) (pe_ifExp (pt_cmpR op_lt (pe_callB call_len_seq (by rfl) G.len PySem.boot_len (pa_cons (pv 3) pa_nil)) pe_int (nomark _)) (pe_callB call_len_seq (by rfl) G.len PySem.boot_len (pa_cons (pv 3) pa_nil)) pe_non))
        (pss_one (ps_if (pt_cmpR (op_neD hu) (pe_lc (own := [("way", 10)]) (g := gName 10) (tt := tYes) (te := tCallS (spWord K) E00 (tCons (tVar 10) (tCons (tOp (rCatT K) (tVar 3) (L2.tSl (rSlA K) (tVar 3) (tPart (tUn (rU fun i => .int (-i)) (tC (.int 1)))) tNoPart)) (tCons (tVar 6) tNil)))) rfl scLaw.nd (pi_range1 rfl G.range (pa_cons pe_int pa_nil)) (blkOk_by (N := lawN) (sc := defScope sLaw) (by decide +kernel))
              (fun _ _ _ _ _ => pg_name (i := 10) scLaw.nd rfl (Or.inl rfl)) (fun _ _ _ _ _ => pts_nil) (fun _ _ _ _ _ => pe_g NW c rfl G.wo kW bW quiets (pa_cons (pv 10) (pa_cons (pe_op op_catT (pv 3) (pe_slice sl_tupA (pv 3) (po_some (pe_un un_neg pe_int)) po_none)) (pa_cons (pv 6) pa_nil)))))
            (pe_op op_rep (pe_lst (pa_cons (pe_lst (pa_cons pe_str (pa_cons (pv 7) pa_nil))) pa_nil)) pe_int) (nomark _))
          (pss_one (ps_ret pe_bl)) pss_nil))))))))))))
      (pss_one (ps_ret pe_bl))), ?_⟩
    walk_at "run"
    refine ⟨a, ns, rfl, hs, hns, fun p cc H1 hp hcc D1 s1 => ?_⟩
    walk_at "run"
    refine ⟨_, _, rfl, Or.inl (Same.seq s1 hs), ?_⟩
    walk_at "run"
    refine ⟨_, _, rfl, ?_⟩
    walk_at "run"
    have hm : (if (5 : Int) + ((ns.map V.int).length : Int) < 24 then (5 : Int) + ((ns.map V.int).length : Int) else 24) ≤ 24 := by split <;> omega
    generalize hmm : (if (5 : Int) + ((ns.map V.int).length : Int) < 24 then (5 : Int) + ((ns.map V.int).length : Int) else 24) = mm at hm
    have hm0 : 0 ≤ mm := by rw [← hmm]; split <;> omega
    refine ⟨_, rfl, by omega, by omega, for_range (n := mm.toNat) (fun i σ H' => ∃ (x2 x3 x4 x5 x6 x7 x8 x9 x10 : Option V), σ = [some (.ref a), some (.ref p), x2, x3, x4, x5, x6, x7, x8, x9, x10] ∧ Dr H' p cc (100 * i))
      ⟨_, _, _, _, _, _, _, _, _, rfl, D1⟩ ?_ ?_⟩
    · rintro i σ H2 hi ⟨x2, x3, x4, x5, x6, x7, x8, x9, x10, rfl, D2⟩
      walk_at "run"
      refine ⟨p, cc, 100 * i, rfl, D2, by omega, fun ra rs H3 hR3 hok hra D3 k3 => ?_⟩
      walk_at "run"
      refine ⟨p, cc, ra, rs, _, 12, rfl, D3, by omega, hR3, hok, by decide, fun z H4 hz hzl D4 k4 => ?_⟩
      have hR4 := hR3.keep (D3.tups k4)
      walk_at "run"
      obtain ⟨ps, hps, hpr⟩ := hR4
      have hplen : ps.length = rs.length := Paired.length hpr
      refine ⟨ra, rfl, ⟨_, SqT.of hps⟩, fun D hD => ?_⟩
      refine lc_tup (xs := ps.map V.ref) (fun i H' => Same H4 H' ∧ H' D = some (.lst (((cnts rs z).take i).map fun (n : Nat) => .int n)))
        ⟨same_new hD, upd_same⟩ (fun i H' _ ⟨h, _⟩ => sqt_same h (SqT.of hps)) ?_ ?_
      · rintro i x H5 hx ⟨h5, hD5⟩
        rw [List.getElem?_map] at hx
        obtain ⟨q, hq, rfl⟩ := Option.map_eq_some_iff.mp hx
        have hil : i < rs.length := by
          rw [← hplen]
          exact (List.getElem?_eq_some_iff.mp hq).1
        obtain ⟨q', hq', hqr⟩ := Ro.at (a := ra) hpr hil
        rw [hq] at hq'
        cases hq'
        refine n_gtup (SqT.of (h5 _ _ hqr)) rfl ?_
        walk_at "run"
        refine ⟨rfl, ?_⟩
        walk_at "run"
        refine ⟨z, rs[i].1, rfl, ?_⟩
        have hc : (cnts rs z)[i]? = some (z.cps.toList.count rs[i].1) := by
          unfold cnts
          rw [List.getElem?_map, List.getElem?_eq_getElem hil]
          rfl
        refine ⟨_, hD5, ?_, fun b u h => by rw [upd_ne (ne_of_none h hD)]; exact h5 b u h, ?_⟩
        · have := hok.2.1
          rw [List.length_map, List.length_take, sizeLine_eq]
          unfold cnts
          rw [List.length_map]
          omega
        · rw [upd_same, take_snoc hc, List.map_append]
          rfl
      rintro H5 ⟨h5, hD5⟩
      have hcl : (cnts rs z).length = rs.length := by unfold cnts; rw [List.length_map]
      rw [List.length_map, hplen, ← hcl, List.take_length] at hD5
      walk_at "run"
      refine ⟨D, _, rfl, Or.inl ⟨SqL.of hD5, fun t ht => ?_⟩⟩
      walk_at "run"
      have s6 : Same H4 (upd H5 t (.tup ((cnts rs z).map fun (n : Nat) => V.int n))) := fun b u h => by rw [upd_ne (ne_of_none (h5 b u h) ht)]; exact h5 b u h
      have hR4 : Ro H4 ra rs := ⟨ps, hps, hpr⟩
      have dz : ∀ {H'}, Same H4 H' → Dz K H' (.ref ra) (roD rs) := fun h => ro_dz (hR4.keep fun b xs q => h b _ q)
      have tz : txt (.str z) := by show z.length ≤ 100000; omega
      refine ⟨.ref ra, roD rs, .str z, .str z, rfl, dz s6, .str z, ro_txt rs, tz, ?_⟩
      rw [ro_line hok hz hzl]
      intro H7 q s7 hq7 hv7
      have ev : ((badgesD (roD rs)).cps.toList.map fun c => V.int ((ltxt (.str z)).cps.toList.count c : Nat)) = (cnts rs z).map fun (n : Nat) => V.int n := by
        rw [ro_badges]
        unfold cnts
        rw [List.map_map, List.map_map]
        rfl
      rw [ev] at hv7
      obtain ⟨w1, w2, w3⟩ := show_tup (cnts rs z) (cnts_le hzl) (by rw [hcl]; exact hok.2.1)
      walk_at "run"
      refine ⟨_, _, rfl, .tup (SqT.of hv7) (dza_ints _), w1, w2, w3, ?_⟩
      walk_at "run"
      have ht7 : H7 t = some (.tup ((cnts rs z).map fun (n : Nat) => V.int n)) := s7 _ _ upd_same
      refine ⟨_, _, rfl, .tup (SqT.of ht7) (dza_ints _), w1, w2, w3, ?_⟩
      walk_at "run"
      refine n_ite (fun h => absurd h (by simp)) (fun _ => ?_)
      walk_at "run"
      refine ⟨t, (cnts rs z).map fun (n : Nat) => ((n : Nat) : Int), rfl, SqT.of (by rw [ht7, List.map_map]; rfl), ?_⟩
      rw [sum_cnts hok hz]
      walk_at "run"
      refine ⟨z, rfl, by rw [sizeLine_eq]; omega, ?_⟩
      walk_at "run"
      refine n_ite (fun h => absurd h (by simp)) (fun _ => ?_)
      have D7 : Dr H7 p cc (100 * i + 10 + 60) := D4.at (fun o h => s7 _ _ (s6 _ _ h)) (fun o h => s7 _ _ (s6 _ _ h))
      have hR7 : Ro H7 ra rs := hR4.keep fun b xs h => s7 _ _ (s6 _ _ h)
      refine ⟨fun σ' H' => σ' = [some (.ref a), some (.ref p), some (.int (0 + (i : Int))), some (.ref ra), some (.str z), some (.ref t), x6, x7, x8, x9, x10] ∧ Dr H' p cc (100 * i + 90) ∧ Ro H' ra rs, ?_, ?_⟩
      · walk_at "run"
        refine n_ite (fun h => ?_) (fun h => ?_)
        · walk_at "run"
          have hz1 : 1 ≤ z.length := by
            have h1 : z ≠ "" := fun q => by rw [q] at h; simp at h
            rcases Nat.eq_zero_or_pos z.length with h0 | h0
            · exact absurd (str_ext (x := z) (y := "") (by rw [h0]; rfl) fun k hk => absurd hk (by omega)) h1
            · exact h0
          refine ⟨p, cc, ra, rs, z, _, rfl, D7, by omega, hR7, hok, hz, hz1, hzl, fun H8 D8 k8 => ?_⟩
          walk_at "run"
          refine iteF ?_
          walk_at "run"
          exact ⟨rfl, D8.mono (by omega), hR7.keep (D7.tups k8)⟩
        · walk_at "run"
          exact ⟨rfl, D7.mono (by omega), hR7⟩
      clear hR4 dz
      rintro σ' H8 ⟨rfl, D8, hR8⟩
      have dz : ∀ {H'}, Same H8 H' → Dz K H' (.ref ra) (roD rs) := fun h => ro_dz (hR8.keep fun b xs q => h b _ q)
      walk_at "run"
      refine ⟨_, rfl, by omega, by omega, fun D9 hD9 => words_lc (d := roD rs) (l := .str "") hD9 (fun _ => rfl) ?_ ?_⟩
      · intro i2 H9 Q9 s9 q9
        walk_at "run"
        exact ⟨_, _, _, _, _, rfl, dz s9, .str "", ro_txt rs, (by show 0 ≤ 100000; omega), q9⟩
      intro H9 p0 p1 s9 e9 e0 e1
      have hin0 : inR rs "" := fun c h => by
        have h' : c ∈ ([] : List Nat) := h
        cases h'
      have o0 : dueO 0 (roD rs) (.str "") = none := by
        rw [show dueO 0 (roD rs) (.str "") = outL (roD rs) (.str "") from rfl]
        exact ro_line hok hin0 (Nat.zero_le _)
      have o1 : dueO 1 (roD rs) (.str "") = some (true, .non) := by
        rw [show dueO 1 (roD rs) (.str "") = outG (roD rs) (.str "") from rfl]
        unfold outG
        rw [ro_line hok hin0 (Nat.zero_le _)]
        rfl
      rw [o0] at e0
      rw [o1] at e1
      walk_at "run"
      refine ⟨(by show 1 ≤ sizeLine; decide), fun q0 hq0 => ?_⟩
      walk_at "run"
      refine ⟨(by show 2 ≤ sizeLine; decide), fun q1 hq1 => ?_⟩
      walk_at "run"
      refine ⟨(by show 2 ≤ sizeLine; decide), fun q2 hq2 => ?_⟩
      have sA := same_new (o := .lst [V.str "told"]) hq0
      have sB := same_new (o := .lst [V.str "people", .non]) hq1
      have sC := same_new (o := .lst [V.ref q0, V.ref q1]) hq2
      have sBC := same_tr sB sC
      have sABC := same_tr sA sBC
      refine ⟨.list [.list [.str "told"], .list [.str "people", .none]], .list [.list [.str "told"], .list [.str "people", .none]], dp2 (sABC _ _ e9) (sABC _ _ e0) (sABC _ _ e1) (.cons (.str _) .nil) (.cons (.str _) (.cons .non .nil)),
        dp2 upd_same (sBC _ _ upd_same) (sC _ _ upd_same) (.cons (.str _) .nil) (.cons (.str _) (.cons .non .nil)), shaped5, shaped5, ?_⟩
      rw [ne_same shaped5]
      walk_at "run"
      refine n_slS (by omega) ?_
      walk_at "run"
      obtain ⟨bl1, bl2⟩ := bad_len hzl
      have bl3 : (badZ z).length = (cutS z none (some 11)).length + ("A" : Str).length := strLen_append _ _
      refine ⟨_, _, rfl, rfl, by rw [sizeLine_eq]; omega, ?_⟩
      walk_at "run"
      have s10 := same_tr s9 sABC
      generalize upd (upd (upd H9 q0 _) q1 _) q2 _ = H10 at s10 ⊢
      clear sA sB sC sBC sABC
      refine ⟨_, rfl, by omega, by omega, fun E9 hE9 => words_lc (d := roD rs) (l := .str (badZ z)) hE9 (fun _ => rfl) ?_ ?_⟩
      · intro i2 H11 Q9 s11 q9
        walk_at "run"
        exact ⟨_, _, _, _, _, rfl, dz (same_tr s10 s11), .str (badZ z), ro_txt rs, (by show (badZ z).length ≤ 100000; omega), q9⟩
      intro H11 p0 p1 s11 f9 f0 f1
      have ob := bad_line hok hz hzl
      rw [show dueO 0 (roD rs) (.str (badZ z)) = outL (roD rs) (.str (badZ z)) from rfl, ob] at f0
      rw [show dueO 1 (roD rs) (.str (badZ z)) = outG (roD rs) (.str (badZ z)) from rfl, out_some ob] at f1
      walk_at "run"
      refine ⟨badZ z, rfl, by rw [sizeLine_eq]; omega, ?_⟩
      walk_at "run"
      refine ⟨(by show 2 ≤ sizeLine; decide), fun u0 hu0 => ?_⟩
      walk_at "run"
      refine ⟨(by show 1 ≤ sizeLine; decide), fun u1 hu1 => ?_⟩
      walk_at "run"
      refine ⟨u1, 2, [.ref u0], rfl, rfl, upd_same, by decide, by decide, (by show 1 * 2 ≤ sizeLine; decide), fun u2 hu2 => ?_⟩
      have tA := same_new (o := .lst [V.str "people", .int (((badZ z).length : Nat) - 1)]) hu0
      have tB := same_new (o := .lst [V.ref u0]) hu1
      have tC := same_new (o := .lst (List.replicate (2 : Int).toNat [V.ref u0]).flatten) hu2
      have tBC := same_tr tB tC
      have tABC := same_tr tA tBC
      refine ⟨words2 (.int (((badZ z).length : Nat) - 1)) "people", words2 (.int (((badZ z).length : Nat) - 1)) "people", dp2 (tABC _ _ f9) (tABC _ _ f0) (tABC _ _ f1) (.cons (.str _) (.cons (.int _) .nil)) (.cons (.str _) (.cons (.int _) .nil)),
        dp2 upd_same (tBC _ _ upd_same) (tBC _ _ upd_same) (.cons (.str _) (.cons (.int _) .nil)) (.cons (.str _) (.cons (.int _) .nil)), shaped2 _, shaped2 _, ?_⟩
      rw [ne_same (shaped2 _)]
      walk_at "run"
      have s12 := same_tr (same_tr s10 s11) tABC
      generalize upd (upd (upd H11 u0 _) u1 _) u2 _ = H12 at s12 ⊢
      clear tA tB tC tBC tABC
      have hR12 : Ro H12 ra rs := hR8.keep fun b xs h => s12 _ _ h
      obtain ⟨ps2, hps2, hpr2⟩ := hR12
      have hplen2 : ps2.length = rs.length := Paired.length hpr2
      refine ⟨fun σ' H' => σ' = [some (.ref a), some (.ref p), some (.int (0 + (i : Int))), some (.ref ra), some (.str z), some (.ref t), some (.str (badZ z)), some (if rs.length < 4 then .int (rs.length : Nat) else .non), x8, x9, x10] ∧ H' = H12, ?_, ?_⟩
      · walk_at "run"
        refine ⟨ra, _, rfl, Or.inr (SqT.of hps2), ?_⟩
        walk_at "run"
        rw [List.length_map, hplen2]
        refine n_ite (fun h => ?_) (fun h => ?_)
        · walk_at "run"
          refine ⟨ra, _, rfl, Or.inr (SqT.of hps2), ?_⟩
          rw [List.length_map, hplen2]
          walk_at "run"
          have := d_true h
          rw [if_pos (by omega)]
          exact ⟨rfl, rfl⟩
        · walk_at "run"
          have := d_false h
          rw [if_neg (by omega)]
          exact ⟨rfl, rfl⟩
      rintro σ' H12' ⟨rfl, rfl⟩
      walk_at "run"
      obtain ⟨a1, ql, b1, r, e1, e2, hqr⟩ := paired_last hpr2 (fun h => by have := hok.1; rw [h] at this; exact absurd this (by decide))
      have exs : ps2.map V.ref = a1.map V.ref ++ [V.ref ql] := by rw [e1, List.map_append]; rfl
      have hlast : rs.getLast? = some r := by rw [e2]; simp
      have hdup := ro_dup hok hlast
      generalize hX : (if rs.length < 4 then V.int (rs.length : Nat) else V.non) = X at hdup ⊢
      have hxd : ∃ xd : PyData, (∀ Hx, Dp K Hx X xd) ∧ SeqAt.shaped (words2 xd "roster") = true := by
        rw [← hX]
        by_cases h4 : rs.length < 4
        · rw [if_pos h4]
          exact ⟨_, fun _ => .int _, shaped3 _⟩
        · rw [if_neg h4]
          exact ⟨_, fun _ => .non, shaped4⟩
      obtain ⟨xd, hxd, hsh⟩ := hxd
      have oL : outL (roD (rs ++ [r])) (.str (badZ z)) = some (false, X) := by
        unfold outL
        rw [hdup]
      refine ⟨_, rfl, by omega, by omega, fun E9 hE9 => words_lc (d := roD (rs ++ [r])) (l := .str (badZ z)) hE9 (fun _ => rfl) ?_ ?_⟩
      · intro i2 H13 Q9 s13 q9
        walk_at "run"
        have hq3 : H13 ra = some (.tup (ps2.map V.ref)) := s13 _ _ hps2
        have fin : ∀ (Hx : Hp) (s : Addr), Same H13 Hx → SqT K Hx s [V.ref ql] → ∀ Q' : VK, (∀ c H', Same Hx H' → H' c = some (.tup (ps2.map V.ref ++ [V.ref ql])) → Q' (.ref c) H') → rCatT K (.ref ra) (.ref s) Hx Q' := fun Hx s hS hsq Q' k =>
          ⟨ra, s, _, _, rfl, rfl, SqT.of (hS _ _ hq3), hsq, (by rw [exs]; simp), (by rw [List.length_map, hplen2, sizeLine_eq]; have := hok.2.1; simp; omega), (fun h => by cases h), fun _ c hc => k c _ (same_new hc) upd_same⟩
        have call : ∀ c H', Same H13 H' → H' c = some (.tup (ps2.map V.ref ++ [V.ref ql])) → spWord K [.int (0 + (i2 : Int)), .ref c, .str (badZ z)] H' Q9 E0 := fun c H' hS hc => by
          refine ⟨_, .ref c, roD (rs ++ [r]), .str (badZ z), .str (badZ z), rfl, ro_dz ⟨ps2 ++ [ql], by rw [List.map_append]; exact hc, paired_snoc (paired_map hpr2 fun q r h => hS _ _ (s13 _ _ h)) (hS _ _ (s13 _ _ hqr))⟩, .str _, ro_txt _, (by show (badZ z).length ≤ 100000; omega), fun H'' p hS2 hp hv => q9 H'' p (same_tr hS hS2) (same_none hS hp) hv⟩
        refine ⟨ra, _, rfl, SqT.of hq3, fun hw => ?_, fun hw s hs => ?_⟩
        · have hl1 : a1 = [] := by
            have h1 := hw.1
            rw [exs, List.length_append, List.length_map] at h1
            have h2 : HT.sIx (a1.length + 1) 0 (some (-(1 : Int))) = 0 := h1
            rw [sIx_m1] at h2
            exact List.length_eq_zero_iff.mp h2
          have hsq : SqT K H13 ra [V.ref ql] := by
            have := hq3
            rw [exs, hl1] at this
            exact SqT.of this
          refine fin H13 ra (fun _ _ h => h) hsq _ fun c H' hS hc => ?_
          walk_at "run"
          exact call c H' hS hc
        · have hcut : cutV (ps2.map V.ref) (some (-(1 : Int))) none = [V.ref ql] := by
            rw [exs]
            exact cut_last _ _
          rw [hcut]
          refine fin _ s (same_new hs) (SqT.of upd_same) _ fun c H' hS hc => ?_
          walk_at "run"
          exact call c H' (same_tr (same_new hs) hS) hc
      intro H14 p0 p1 s14 g9 g0 g1
      rw [show dueO 0 (roD (rs ++ [r])) (.str (badZ z)) = outL (roD (rs ++ [r])) (.str (badZ z)) from rfl, oL] at g0
      rw [show dueO 1 (roD (rs ++ [r])) (.str (badZ z)) = outG (roD (rs ++ [r])) (.str (badZ z)) from rfl, out_some oL] at g1
      walk_at "run"
      refine ⟨(by show 2 ≤ sizeLine; decide), fun u0 hu0 => ?_⟩
      walk_at "run"
      refine ⟨(by show 1 ≤ sizeLine; decide), fun u1 hu1 => ?_⟩
      walk_at "run"
      refine ⟨u1, 2, [.ref u0], rfl, rfl, upd_same, by decide, by decide, (by show 1 * 2 ≤ sizeLine; decide), fun u2 hu2 => ?_⟩
      have tA := same_new (o := .lst [V.str "roster", X]) hu0
      have tB := same_new (o := .lst [V.ref u0]) hu1
      have tC := same_new (o := .lst (List.replicate (2 : Int).toNat [V.ref u0]).flatten) hu2
      have tBC := same_tr tB tC
      have tABC := same_tr tA tBC
      refine ⟨words2 xd "roster", words2 xd "roster", dp2 (tABC _ _ g9) (tABC _ _ g0) (tABC _ _ g1) (.cons (.str _) (.cons (hxd _) .nil)) (.cons (.str _) (.cons (hxd _) .nil)),
        dp2 upd_same (tBC _ _ upd_same) (tBC _ _ upd_same) (.cons (.str _) (.cons (hxd _) .nil)) (.cons (.str _) (.cons (hxd _) .nil)), hsh, hsh, ?_⟩
      rw [ne_same hsh]
      walk_at "run"
      have sF := same_tr (same_tr s12 s14) tABC
      exact ⟨_, _, _, _, _, _, _, _, _, rfl, Dr.mono (D8.at (fun o h => sF _ _ h) (fun o h => sF _ _ h)) (by omega)⟩
    · rintro σ H2 ⟨x2, x3, x4, x5, x6, x7, x8, x9, x10, rfl, D2⟩
      walk_at "run"
      exact go H2
end

/-! ### the end -/
theorem split2 {α : Type} {us ws : List α} (h : us.length + ws.length = 2) : (us = [] ∧ ∃ a b, ws = [a, b]) ∨ ((∃ a, us = [a]) ∧ ∃ b, ws = [b]) ∨ ((∃ a b, us = [a, b]) ∧ ws = []) := by
  match us, ws, h with
  | [], [a, b], _ => exact .inl ⟨rfl, a, b, rfl⟩
  | [a], [b], _ => exact .inr (.inl ⟨⟨a, rfl⟩, b, rfl⟩)
  | [a, b], [], _ => exact .inr (.inr ⟨⟨a, b, rfl⟩, rfl⟩)
  | [], [], h => simp at h
  | [], [_], h => simp at h
  | [], _ :: _ :: _ :: _, h => simp at h
  | [_], [], h => simp at h
  | [_], _ :: _ :: _, h => (simp at h; omega)
  | [_, _], _ :: _, h => simp at h
  | _ :: _ :: _ :: _, _, h => (simp at h; omega)
theorem split3 {α : Type} {us ws : List α} (h : us.length + ws.length = 3) : (us = [] ∧ ∃ a b c, ws = [a, b, c]) ∨ ((∃ a, us = [a]) ∧ ∃ b c, ws = [b, c]) ∨ ((∃ a b, us = [a, b]) ∧ ∃ c, ws = [c]) ∨ ((∃ a b c, us = [a, b, c]) ∧ ws = []) := by
  match us, h with
  | [], h =>
    match ws, h with
    | [a, b, c], _ => exact .inl ⟨rfl, a, b, c, rfl⟩
    | [], h => simp at h
    | [_], h => simp at h
    | [_, _], h => simp at h
    | _ :: _ :: _ :: _ :: _, h => (simp at h)
  | a :: us, h =>
    rcases split2 (us := us) (ws := ws) (by simp at h; omega) with ⟨rfl, b, c, rfl⟩ | ⟨⟨b, rfl⟩, c, rfl⟩ | ⟨⟨b, c, rfl⟩, rfl⟩
    · exact .inr (.inl ⟨⟨a, rfl⟩, b, c, rfl⟩)
    · exact .inr (.inr (.inl ⟨⟨a, b, rfl⟩, c, rfl⟩))
    · exact .inr (.inr (.inr ⟨⟨a, b, c, rfl⟩, rfl⟩))
def inner (i k : Nat) : Stmt := match top i with
  | .ClassDef _ _ _ b _ _ _ _ _ _ _ => b.getD k (.Pass ⟨0, 0, 0, 0⟩)
  | _ => .Pass ⟨0, 0, 0, 0⟩
abbrev sIniR : Stmt := inner 2 0
abbrev sIniP : Stmt := inner 3 0
theorem scIR : FnScope ["self", "entry"] ["self", "entry"] (defScope sIniR) := ⟨rfl, rfl, rfl, by decide +kernel, rfl, by decide +kernel, by decide +kernel⟩
theorem scIP : FnScope ["self", "place"] ["self", "place"] (defScope sIniP) := ⟨rfl, rfl, rfl, by decide +kernel, rfl, by decide +kernel, by decide +kernel⟩
theorem all_mk {P : Program} {wd : World} {K : PySem.W.Frag} {h : Heap} {mg : Str → Option Value} {fa C C2 c1 c2 c3 : Addr} {t4 t5 t12 : Tok} (X : K.In h) (G : h.Ns mainGlobals mg) (hfa : mg "law" = some (.ref fa))
    (aC : PySem.W.nsIn K mainGlobals "InvalidRoster" = some (some (.ref C))) (aC2 : PySem.W.nsIn K mainGlobals "InvalidPeople" = some (some (.ref C2)))
    (a1 : PySem.W.nsIn K mainGlobals "CrewError" = some (some (.ref c1))) (a2 : PySem.W.nsIn K mainGlobals "StateError" = some (some (.ref c2))) (a3 : PySem.W.nsIn K mainGlobals "MissingError" = some (some (.ref c3)))
    (eR : En K "InvalidRoster" "InvalidRoster.__init__" "entry" sIniR C) (eP : En K "InvalidPeople" "InvalidPeople.__init__" "place" sIniP C2)
    (k1 : Cl K c1) (k2 : Cl K c2) (k3 : Cl K c3) (kC2 : Cl K C2)
    (s11 : PySem.W.subIn K (.ref C) (.ref c1) = some true) (s12 : PySem.W.subIn K (.ref C) (.ref c2) = some false) (s13 : PySem.W.subIn K (.ref C) (.ref c3) = some false)
    (s21 : PySem.W.subIn K (.ref C2) (.ref c1) = some true) (s22 : PySem.W.subIn K (.ref C2) (.ref c2) = some false) (s23 : PySem.W.subIn K (.ref C2) (.ref c3) = some false)
    (sn : PySem.W.subIn K (.ref C) (.ref C2) = some false) (ss : PySem.W.subIn K (.ref C2) (.ref C2) = some true)
    (m4 : PySem.W.nsIn K mainGlobals "MAX_BADGES" = some (some (.int 4 t4))) (m5 : PySem.W.nsIn K mainGlobals "MAX_SIZE" = some (some (.int 5 t5))) (m12 : PySem.W.nsIn K mainGlobals "MAX_PEOPLE" = some (some (.int 12 t12)))
    (dCR : Dn K "check_roster" sCheckR) (dBa : Dn K "badges_of" sBadges) (dEn : Dn K "_is_entry" sEntry) (dBg : Dn K "_is_badge" sBadge) (dSz : Dn K "_is_size" sSize) (dCL : Dn K "check_line" sCheckL) (dCG : Dn K "check_ring" sCheckG) (dCo : Dn K "counts_of" sCounts) (dTu : Dn K "turned" sTurned)
    (dBe : Dn K "_law_begin" sBegin) (dMi : Dn K "_law_mixed" sMixed) (dNe : Dn K "_law_next" sNext) (dRo : Dn K "_law_roster" sRoster) (dLi : Dn K "_law_line" sLine) (dLc : Dn K "_law_count" sCount) (dTR : Dn K "_law_turned_right" sTR) (dWo : Dn K "_law_word" sWord) (dLa : Dn K "law" sLaw)
    (z1 : PySem.W.nsIn K mainGlobals "isinstance" = some none) (z2 : PySem.W.nsIn K mainGlobals "len" = some none) (z3 : PySem.W.nsIn K mainGlobals "str" = some none) (z4 : PySem.W.nsIn K mainGlobals "int" = some none) (z5 : PySem.W.nsIn K mainGlobals "bool" = some none) (z6 : PySem.W.nsIn K mainGlobals "tuple" = some none)
    (z7 : PySem.W.nsIn K mainGlobals "enumerate" = some none) (z8 : PySem.W.nsIn K mainGlobals "range" = some none) (z9 : PySem.W.nsIn K mainGlobals "max" = some none) (z10 : PySem.W.nsIn K mainGlobals "min" = some none) (z11 : PySem.W.nsIn K mainGlobals "list" = some none) (z12 : PySem.W.nsIn K mainGlobals "repr" = some none) (z13 : PySem.W.nsIn K mainGlobals "sum" = some none) :
    ∃ fd : FuncData, (∀ (s : Shared) (u : Value), BindsTo s fd ⟨[u], []⟩ [("script", u)]) ∧ ∀ base : Heap, K.In base → base.Ns mainGlobals mg → FnG P wd K mg base 9 fa fd ["script"] (spLaw K) := by
  have mgv : ∀ {n : Str} {v : Value}, PySem.W.nsIn K mainGlobals n = some (some v) → mg n = some v := fun e => PySem.W.mg_of X G e
  have mgn : ∀ {n : Str}, PySem.W.nsIn K mainGlobals n = some none → mg n = none := fun e => PySem.W.mg_none_of X G e
  obtain ⟨fI1, dI1, T1, FI1⟩ := eR
  obtain ⟨fI2, dI2, T2, FI2⟩ := eP
  have T1 := T1 mg (mgv aC)
  have T2 := T2 mg (mgv aC2)
  have bI1 := FI1.binds (ps := ["self", "entry"]) fun _ _ _ _ _ _ us hl => match us, hl with | [_, _], _ => rfl
  have bI2 := FI2.binds (ps := ["self", "place"]) fun _ _ _ _ _ _ us hl => match us, hl with | [_, _], _ => rfl
  obtain ⟨fCR, gCR, nCR, FCR⟩ := dCR
  obtain ⟨fBa, gBa, nBa, FBa⟩ := dBa
  obtain ⟨fEn, gEn, nEn, FEn⟩ := dEn
  obtain ⟨fBg, gBg, nBg, FBg⟩ := dBg
  obtain ⟨fSz, gSz, nSz, FSz⟩ := dSz
  obtain ⟨fCL, gCL, nCL, FCL⟩ := dCL
  obtain ⟨fCG, gCG, nCG, FCG⟩ := dCG
  obtain ⟨fCo, gCo, nCo, FCo⟩ := dCo
  obtain ⟨fTu, gTu, nTu, FTu⟩ := dTu
  obtain ⟨fBe, gBe, nBe, FBe⟩ := dBe
  obtain ⟨fMi, gMi, nMi, FMi⟩ := dMi
  obtain ⟨fNe, gNe, nNe, FNe⟩ := dNe
  obtain ⟨fRo, gRo, nRo, FRo⟩ := dRo
  obtain ⟨fLi, gLi, nLi, FLi⟩ := dLi
  obtain ⟨fLc, gLc, nLc, FLc⟩ := dLc
  obtain ⟨fTR, gTR, nTR, FTR⟩ := dTR
  obtain ⟨fWo, gWo, nWo, FWo⟩ := dWo
  obtain ⟨fLa, gLa, nLa, FLa⟩ := dLa
  have e := hfa.symm.trans (mgv nLa)
  cases e
  have bCR := FCR.binds (ps := ["roster"]) fun _ _ _ _ _ _ us hl => match us, hl with | [_], _ => rfl
  have bBa := FBa.binds (ps := ["roster"]) fun _ _ _ _ _ _ us hl => match us, hl with | [_], _ => rfl
  have bEn := FEn.binds (ps := ["item"]) fun _ _ _ _ _ _ us hl => match us, hl with | [_], _ => rfl
  have bBg := FBg.binds (ps := ["thing"]) fun _ _ _ _ _ _ us hl => match us, hl with | [_], _ => rfl
  have bSz := FSz.binds (ps := ["thing"]) fun _ _ _ _ _ _ us hl => match us, hl with | [_], _ => rfl
  have bCL := FCL.binds (ps := ["roster", "line"]) fun _ _ _ _ _ _ us hl => match us, hl with | [_, _], _ => rfl
  have bCG := FCG.binds (ps := ["roster", "ring"]) fun _ _ _ _ _ _ us hl => match us, hl with | [_, _], _ => rfl
  have bCo := FCo.binds (ps := ["roster", "line"]) fun _ _ _ _ _ _ us hl => match us, hl with | [_, _], _ => rfl
  have bTu := FTu.binds (ps := ["roster", "ring", "by"]) fun _ _ _ _ _ _ us hl => match us, hl with | [_, _, _], _ => rfl
  have bBe := FBe.binds (ps := ["script"]) fun _ _ _ _ _ _ us hl => match us, hl with | [_], _ => rfl
  have bMi := FMi.binds (ps := ["cell", "k"]) fun _ _ _ _ _ _ us hl => match us, hl with | [_, _], _ => rfl
  have bNe := FNe.binds (ps := ["draw", "bound"]) fun _ _ _ _ _ _ us hl => match us, hl with | [_, _], _ => rfl
  have bRo := FRo.binds (ps := ["draw"]) fun _ _ _ _ _ _ us hl => match us, hl with | [_], _ => rfl
  have bLi := FLi.binds (ps := ["draw", "rules", "most"]) fun _ _ _ _ _ _ us hl => match us, hl with | [_, _, _], _ => rfl
  have bLc := FLc.binds (ps := ["people", "mark"]) fun _ _ _ _ _ _ us hl => match us, hl with | [_, _], _ => rfl
  have bTR := FTR.binds (ps := ["draw", "rules", "people"]) fun _ _ _ _ _ _ us hl => match us, hl with | [_, _, _], _ => rfl
  have bWo := FWo.binds (ps := ["way", "rules", "people"]) fun _ _ _ _ _ _ us hl => match us, hl with | [_, _, _], _ => rfl
  have kbCo : KBinds K gCo ["roster", "line"] ["line", "roster"] (fun us ws => us ++ ws.reverse) (fun us ws => us ++ ws.reverse) := kb_of FCo (fun _ _ _ _ _ _ us ws hl => by
    rcases split2 (by simpa using hl) with ⟨rfl, a, b, rfl⟩ | ⟨⟨a, rfl⟩, b, rfl⟩ | ⟨⟨a, b, rfl⟩, rfl⟩ <;> rfl) fun r s => Vals.append r s.reverse
  have kbTu : KBinds K gTu ["roster", "ring", "by"] ["by", "ring", "roster"] (fun us ws => us ++ ws.reverse) (fun us ws => us ++ ws.reverse) := kb_of FTu (fun _ _ _ _ _ _ us ws hl => by
    rcases split3 (by simpa using hl) with ⟨rfl, a, b, c, rfl⟩ | ⟨⟨a, rfl⟩, b, c, rfl⟩ | ⟨⟨a, b, rfl⟩, c, rfl⟩ | ⟨⟨a, b, c, rfl⟩, rfl⟩ <;> rfl) fun r s => Vals.append r s.reverse
  have Gi' : Gi mg := ⟨mgn z1, mgn z2, mgn z3, mgn z4, mgn z5, mgn z6, ⟨_, mgv m4, ⟨_, rfl⟩⟩, ⟨_, mgv m5, ⟨_, rfl⟩⟩⟩
  obtain ⟨oc, od, kV, doc, pm, an, cdv, ct, osl, rfl, lk, hcd⟩ := FLa.ex
  refine ⟨PySem.W.fnOf "law" "law" (defArgs sLaw) (defBody sLaw) (defScope sLaw) .none kV doc pm an cdv ct, fun s u => .of_eq rfl, fun base _ _ => ?_⟩
  have II1 : FnOk P wd K mg base (L2.CX P wd) 1 fI1 dI1 ["self", "entry"] (spIni C "entry") := ini_ok T1 FI1 scIR rfl (Or.inl rfl) (Or.inl rfl) (by decide) (by decide)
  have II2 : FnOk P wd K mg base (L2.CX P wd) 1 fI2 dI2 ["self", "place"] (spIni C2 "place") := ini_ok T2 FI2 scIP rfl (Or.inl rfl) (Or.inl rfl) (by decide) (by decide)
  have NEn : FnG P wd K mg base 2 fEn gEn ["item"] (spEntry K) := ok_entry FEn Gi' FBg FSz (mgv nBg) (mgv nSz) bBg bSz
  have NCR : FnG P wd K mg base 3 fCR gCR ["roster"] (spCheckR K C) := ok_checkR FCR Gi' (mgn z7) NEn (mgv nEn) FEn.kp bEn T1 II1 bI1
  have NBa : FnG P wd K mg base 4 fBa gBa ["roster"] (spBadges K C) := ok_badges FBa NCR (mgv nCR) FCR.kp bCR
  have NCL : FnG P wd K mg base 5 fCL gCL ["roster", "line"] (spCheckL K C C2) := ok_checkL FCL Gi' (mgn z7) ⟨_, mgv m12, ⟨_, rfl⟩⟩ NBa (mgv nBa) FBa.kp bBa T2 II2 bI2
  have NCG : FnG P wd K mg base 6 fCG gCG ["roster", "ring"] (spCheckG K C C2) := ok_checkG FCG NCL (mgv nCL) FCL.kp bCL T2 II2 bI2
  have NCo : FnG P wd K mg base 6 fCo gCo ["roster", "line"] (spCounts K C C2) := ok_counts FCo (mgn z6) NCL (mgv nCL) FCL.kp bCL NBa (mgv nBa) FBa.kp bBa
  have NTu : FnG P wd K mg base 7 fTu gTu ["roster", "ring", "by"] (spTurned K C C2) := ok_turned FTu (mgn z2) NCG (mgv nCG) FCG.kp bCG
  have NBe : FnG P wd K mg base 1 fBe gBe ["script"] (spBegin K) := ok_begin FBe
  have NNe : FnG P wd K mg base 2 fNe gNe ["draw", "bound"] spNext := ok_next FNe ⟨mgn z2⟩ FMi (mgv nMi) bMi
  have NRo : FnG P wd K mg base 3 fRo gRo ["draw"] spRoster := ok_roster FRo ⟨mgv nNe, mgn z8, mgn z6⟩ NNe FNe.kp bNe
  have NLi : FnG P wd K mg base 3 fLi gLi ["draw", "rules", "most"] spLine := ok_line FLi ⟨mgv nNe, mgn z8, mgn z2, mgn z9⟩ NNe FNe.kp bNe
  have NLc : FnG P wd K mg base 1 fLc gLc ["people", "mark"] spCount := ok_count FLc (mgn z4)
  have NTR : FnG P wd K mg base 8 fTR gTR ["draw", "rules", "people"] spTR := ok_tr FTR ⟨mgv nNe, mgv nTu, mgn z2, mgn z8, mgn z11, mgn z3, mgn z1⟩ NNe FNe.kp bNe NTu FTu.kp bTu kbTu
  have Gw' : Gw K mg C C2 c1 c2 c3 := ⟨mgv a1, mgv a2, mgv a3, exm3 k1 k2 k3 s11 s12 s13, exm3 k1 k2 k3 s21 s22 s23, kit_self, kit_no kC2 sn ss, kit_self⟩
  have NWo : FnG P wd K mg base 8 fWo gWo ["way", "rules", "people"] (spWord K) := ok_word FWo Gw' (mgn z1) T1 T2 NCo (mgv nCo) FCo.kp kbCo NTu (mgv nTu) FTu.kp bTu
  exact ok_law FLa ⟨mgv nBe, mgv nRo, mgv nLi, mgv nLc, mgv nCo, mgv nTR, mgv nWo, mgn z8, mgn z10, mgn z2, mgn z6, mgn z12, mgn z13⟩ NBe FBe.kp bBe NRo FRo.kp bRo NLi FLi.kp bLi NLc FLc.kp bLc NCo FCo.kp bCo NTR FTR.kp bTR NWo FWo.kp bWo

end My
open PySem PySem.W PyProof.Rows
set_option maxRecDepth 100000 in
set_option maxHeartbeats 0 in
theorem PySem.Challenge.cw_crewstep_k04_counts_and_turned_rings_holds : PySem.Challenge.rw_crewstep_k04_counts_and_turned_rings.Holds := by
  w_on; o_law; k_head; (case hw => w_witness2)
  k_fill
  refine XK.walk_g (l := PySem.Challenge.rw_crewstep_k04_counts_and_turned_rings) (sp := My.spLaw) (x := "script") (k := 9) rfl (by decide) rfl ⟨rfl, by decide, by decide⟩ (fun w h Y => PySem.W.kIn_of Y) ?F (fun _ _ a ns hl hS => ⟨a, ns, rfl, hS, hl, fun _ => rfl⟩)
  case F =>
    intro wd mg fa h KX G hmg
    refine' My.all_mk KX G hmg ?aC ?aC2 ?a1 ?a2 ?a3 ?eR ?eP ?k1 ?k2 ?k3 ?kC2 ?s11 ?s12 ?s13 ?s21 ?s22 ?s23 ?sn ?ss ?m4 ?m5 ?m12 ?dCR ?dBa ?dEn ?dBg ?dSz ?dCL ?dCG ?dCo ?dTu ?dBe ?dMi ?dNe ?dRo ?dLi ?dLc ?dTR ?dWo ?dLa ?z1 ?z2 ?z3 ?z4 ?z5 ?z6 ?z7 ?z8 ?z9 ?z10 ?z11 ?z12 ?z13
    (case aC => k_is)
    (case aC2 => k_is)
    (case a1 => k_is)
    (case a2 => k_is)
    (case a3 => k_is)
    (case eR => (refine' XK.En.mk ?xL ?sa ?exC ?tyC ?kC ?iC ?tI ?nf ?ga ?gg ?hd ?cl ?sg ?tk ?mo ?l ?c ?k; (case xL => k_is); (case sa => k_is); (case exC => k_is); (case tyC => k_is); (case kC => k_is); (case iC => k_is); (case tI => k_is); (case nf => k_is); (case ga => k_is); (case gg => k_is); (case hd => k_is); (case cl => k_is); (case sg => k_is); (case tk => k_is); (case mo => k_is); (case l => k_is); (case c => k_is); (case k => k_is)))
    (case eP => (refine' XK.En.mk ?xL ?sa ?exC ?tyC ?kC ?iC ?tI ?nf ?ga ?gg ?hd ?cl ?sg ?tk ?mo ?l ?c ?k; (case xL => k_is); (case sa => k_is); (case exC => k_is); (case tyC => k_is); (case kC => k_is); (case iC => k_is); (case tI => k_is); (case nf => k_is); (case ga => k_is); (case gg => k_is); (case hd => k_is); (case cl => k_is); (case sg => k_is); (case tk => k_is); (case mo => k_is); (case l => k_is); (case c => k_is); (case k => k_is)))
    (case k1 => (refine' XK.Cl.mk ?ex ?is ?ty; (case ex => k_is); (case is => k_is); (case ty => k_is)))
    (case k2 => (refine' XK.Cl.mk ?ex ?is ?ty; (case ex => k_is); (case is => k_is); (case ty => k_is)))
    (case k3 => (refine' XK.Cl.mk ?ex ?is ?ty; (case ex => k_is); (case is => k_is); (case ty => k_is)))
    (case kC2 => (refine' XK.Cl.mk ?ex ?is ?ty; (case ex => k_is); (case is => k_is); (case ty => k_is)))
    (case s11 => k_is)
    (case s12 => k_is)
    (case s13 => k_is)
    (case s21 => k_is)
    (case s22 => k_is)
    (case s23 => k_is)
    (case sn => k_is)
    (case ss => k_is)
    (case m4 => k_is)
    (case m5 => k_is)
    (case m12 => k_is)
    (case dCR => (refine' XK.Dn.mk ?a ?l ?c ?k; (case a => k_is); (case l => k_is); (case c => k_is); (case k => k_is)))
    (case dBa => (refine' XK.Dn.mk ?a ?l ?c ?k; (case a => k_is); (case l => k_is); (case c => k_is); (case k => k_is)))
    (case dEn => (refine' XK.Dn.mk ?a ?l ?c ?k; (case a => k_is); (case l => k_is); (case c => k_is); (case k => k_is)))
    (case dBg => (refine' XK.Dn.mk ?a ?l ?c ?k; (case a => k_is); (case l => k_is); (case c => k_is); (case k => k_is)))
    (case dSz => (refine' XK.Dn.mk ?a ?l ?c ?k; (case a => k_is); (case l => k_is); (case c => k_is); (case k => k_is)))
    (case dCL => (refine' XK.Dn.mk ?a ?l ?c ?k; (case a => k_is); (case l => k_is); (case c => k_is); (case k => k_is)))
    (case dCG => (refine' XK.Dn.mk ?a ?l ?c ?k; (case a => k_is); (case l => k_is); (case c => k_is); (case k => k_is)))
    (case dCo => (refine' XK.Dn.mk ?a ?l ?c ?k; (case a => k_is); (case l => k_is); (case c => k_is); (case k => k_is)))
    (case dTu => (refine' XK.Dn.mk ?a ?l ?c ?k; (case a => k_is); (case l => k_is); (case c => k_is); (case k => k_is)))
    (case dBe => (refine' XK.Dn.mk ?a ?l ?c ?k; (case a => k_is); (case l => k_is); (case c => k_is); (case k => k_is)))
    (case dMi => (refine' XK.Dn.mk ?a ?l ?c ?k; (case a => k_is); (case l => k_is); (case c => k_is); (case k => k_is)))
    (case dNe => (refine' XK.Dn.mk ?a ?l ?c ?k; (case a => k_is); (case l => k_is); (case c => k_is); (case k => k_is)))
    (case dRo => (refine' XK.Dn.mk ?a ?l ?c ?k; (case a => k_is); (case l => k_is); (case c => k_is); (case k => k_is)))
    (case dLi => (refine' XK.Dn.mk ?a ?l ?c ?k; (case a => k_is); (case l => k_is); (case c => k_is); (case k => k_is)))
    (case dLc => (refine' XK.Dn.mk ?a ?l ?c ?k; (case a => k_is); (case l => k_is); (case c => k_is); (case k => k_is)))
    (case dTR => (refine' XK.Dn.mk ?a ?l ?c ?k; (case a => k_is); (case l => k_is); (case c => k_is); (case k => k_is)))
    (case dWo => (refine' XK.Dn.mk ?a ?l ?c ?k; (case a => k_is); (case l => k_is); (case c => k_is); (case k => k_is)))
    (case dLa => (refine' XK.Dn.mk ?a ?l ?c ?k; (case a => k_is); (case l => k_is); (case c => k_is); (case k => k_is)))
    (case z1 => k_is)
    (case z2 => k_is)
    (case z3 => k_is)
    (case z4 => k_is)
    (case z5 => k_is)
    (case z6 => k_is)
    (case z7 => k_is)
    (case z8 => k_is)
    (case z9 => k_is)
    (case z10 => k_is)
    (case z11 => k_is)
    (case z12 => k_is)
    (case z13 => k_is)

