import PyProof.Rows.All
import Wide.All
import OpenK.AllK
import Wide.FinOn
import PyProof.ReprRoads
import HandS.ForMost
import HandS.ForExc
import HandS.EndBits
import HandS.ExcInit
import KE.KExcInit
import KE.KExcIs
import HandS.IsInst
import HandS.Defaults
import HandS.ExcField
import HandS.CallSlots
import HandS.Wide
import KE.KExcLine
import HandS.Walk
import HandS.Zip
import HandS.Flow
import HandS.NoneIn
import HandS.TupAny
import HandS.SortInts
import HandS.Conv
import KE.GoesMore
import KE.SortCalls
import KE.OsSort
import HandS.Style
import HandS.TupMul
import HandS.HotCalls
import HandS.Property
import HandS.OwnEq
import HandS.Codes
import HandS.Star
import HandS.TupSets
import HandS.SetFor
import HandS.Strs
import KE.KCallOwn
import HandS.FStr
import HandS.SlotsOwn
import KE.DataCmp
import PySem.Challenge.RW_lesslater_k04_plans_asked
set_option Elab.async false
set_option linter.all false
set_option maxRecDepth 100000
set_option maxHeartbeats 4000000
/-! a def that is run where no repr is under way, and the end of a law for such a def -/
namespace LL
open PySem PySem.Spec PyProof.Rows L2
structure GOk (P : Program) (w : World) (K : PySem.W.Frag) (mg : Str → Option Value) (base : Heap)
    (CX : CXT) (k : Nat) (f : Addr) (fd : FuncData) (ps : List Str) (sp : Sp) : Prop where
  many : ∀ vs H Q E, sp vs H Q E → vs.length = ps.length
  goes : ∀ (A : Around) (out : List Env) (s : Shared) (H : Hp) (args : Args) (us : List Value) (vs : List V)
    (Q : VK) (E : XK), A.guards = some [] → Room k A → Env0 P w K mg base A out s H →
    BindsTo s fd args (ps.zip us) → Vals vs us → sp vs H Q E →
    codeAny (model P w) A (.call (.ref f) args) (CR CX out P w H s Q E) s
theorem GOk.of {P : Program} {w : World} {K : PySem.W.Frag} {mg : Str → Option Value} {base : Heap}
    {CX : CXT} {k : Nat} {f : Addr} {fd : FuncData} {ps : List Str} {sp : Sp}
    (F : FnOk P w K mg base CX k f fd ps sp) : GOk P w K mg base CX k f fd ps sp where
  many := F.len
  goes := fun A out s H args us vs Q E _ a b c d e => F.run A out s H args us vs Q E a b c d e
/-- by the body -/
theorem gok_of {P : Program} {w : World} {K : PySem.W.Frag} {mg : Str → Option Value} {base : Heap}
    {x qual : Str} {st : Stmt} {f : Addr} {fd : FuncData} {N ps : List Str} {k : Nat} {sp : Sp}
    (F : Fun K x qual st f fd) (S : FnScope N ps (defScope st))
    (many : ∀ vs H Q E, sp vs H Q E → vs.length = ps.length)
    (body : ∀ (cdv : Value) (A : Around) (out : List Env) (s : Shared) (H : Hp) (vs : List V) (Q : VK) (E : XK),
      A.guards = some [] → Room k (A.deeper (envOfC qual (defScope st) s.heap.objs.size f cdv)) → sp vs H Q E →
      ∃ t, PSs (cxOf CX0 P w K mg base N qual (defScope st) f cdv A out s H E).nox (defBody st) t ∧
        t { nx := fun _ H' => Q .non H', rt := Q } (start N vs) H) :
    GOk P w K mg base CX0 (k + 1) f fd ps sp := by
  obtain ⟨oc, od, kV, doc, pm, an, cdv, ct, osl, rfl, lk, hcd⟩ := F.ex
  constructor
  · exact many
  intro A out s H args us vs Q E gd rm en bt rl pr
  have up : ∀ b o, base.get? b = some o → s.heap.get? b = some o := fun b o e => (en.bs b o e).1
  have kin := en.mod.kin.keeps up
  have lim := en.mod.nolimit.keeps up
  refine codeAny_call_function rm.depth (kin _ _ lk) rfl S.co S.gen rfl
    (PySem.W.codeRec_of kin hcd) (bt _ _ _ _ (wpAny_newFunctionEnv_cells S.kind ?par ?walk))
  case par =>
    rintro ⟨n, v⟩ hy
    cases S.par n (List.of_mem_zip hy).1 with
    | inl q => exact .inl q
    | inr q => exact .inr ⟨q, PySem.W.cellsFrom_some _ _ _ (.inl q)⟩
  case walk =>
    intro env he s1 ic
    subst he
    refine ⟨lim.keeps ic.toInCall.keep, codeAny_func ?_⟩
    obtain ⟨t, ht, hq⟩ := body cdv A out s H vs Q E gd (rm.deeper _) pr
    have J := inv_start (CX := CX0) (P := P) (w := w) (K := K) (mg := mg) (base := base) (E := E) S rm.hd en (many _ _ _ _ pr) rl ic
    refine wpAny_mono (ht.nox.run [] s1 (start N vs) H _ J hq) ?_ (fun _ _ z => z)
    intro fl s' hs
    cases fl with
    | ret u => obtain ⟨v, σ', H', J', rv, q⟩ := hs; exact ⟨v, H', J'.os, J'.bare, J'.base, J'.hok, rv, q⟩
    | next => obtain ⟨σ', H', J', q⟩ := hs; exact ⟨.non, H', J'.os, J'.bare, J'.base, J'.hok, rfl, q⟩
    | brk => obtain ⟨_, _, _, q⟩ := hs; exact q.elim
    | cont => obtain ⟨_, _, _, q⟩ := hs; exact q.elim
/-- the state ahead of the law's call, with H tracked: at most the script, which is none of the written things -/
theorem env_of {P : Program} {w : World} {K : PySem.W.Frag} {mg mb : Str → Option Value} {s : Shared} {a : Addr} {vs : List Value} {H : Hp}
    (KX : K.In s.heap) (hg : s.heap.Ns mainGlobals mg) (hb : s.heap.Ns builtinsNs mb)
    (hbb : ∀ x : Str, x ≠ "__name__" → mb x = bootBuiltins x) (hlim : s.heap.NoLimit) (hgen : s.gens = #[])
    (ha : s.heap.get? a = some { cls := .type "list", data := .seq vs.toArray })
    (only : ∀ b, H b ≠ none → b = a ∧ K.lookup b = none) (hok : HOk P w H s.heap) :
    Env0 P w K mg (hidT s.heap H) callerA [] s H ∧ (∀ b m, s.heap.Ns b m → (hidT s.heap H).Ns b m) ∧ K.In (hidT s.heap H) := by
  have clear : ∀ b o, s.heap.get? b = some o → (∀ es ep, o.data ≠ .dict es ep) ∨ H b = none := by
    intro b o e
    by_cases q : H b = none
    · exact .inr q
    · obtain ⟨rfl, _⟩ := only b q
      rw [ha] at e
      cases e
      exact .inl fun es ep z => by cases z
  have ns : ∀ b m, s.heap.Ns b m → (hidT s.heap H).Ns b m := by
    rintro b m ⟨o, es, ep, e, d, r⟩
    rcases clear b o e with z | z
    · exact absurd d (z es ep)
    · exact ⟨o, es, ep, hidT_get e z, d, r⟩
  have kin : K.In (hidT s.heap H) := by
    intro b o e
    refine hidT_get (KX b o e) ?_
    by_cases q : H b = none
    · exact q
    · rw [(only b q).2] at e
      cases e
  refine ⟨⟨rfl, ⟨kin, ns _ _ hg, ⟨mb, ns _ _ hb, hbb⟩, ?_⟩, fun b o e => of_hidT e, Nat.le_of_eq (hidT_size _ _), trivial, ?_, hok, .of_eq hgen⟩, ns, kin⟩
  · obtain ⟨mc, h1, h2⟩ := hlim
    exact ⟨mc, ns _ _ h1, h2⟩
  · intro b hb
    cases hb
theorem run_law {P : Program} {w : World} {K : PySem.W.Frag} {mg mb : Str → Option Value} {k : Nat} {fa a : Addr} {fd : FuncData} {x : Str} {sp : Sp} {s : Shared} {vs : List Value} {ns : List Int}
    (KX : K.In s.heap) (hg : s.heap.Ns mainGlobals mg) (hb : s.heap.Ns builtinsNs mb) (hm : ∃ mm, s.heap.Ns sysModules mm)
    (hbb : ∀ x : Str, x ≠ "__name__" → mb x = bootBuiltins x) (hlim : s.heap.NoLimit) (hgen : s.gens = #[])
    (ha : s.heap.get? a = some { cls := .type "list", data := .seq vs.toArray }) (hi : IntsAre vs ns) (hl : ns.length ≤ sizeLine) (hr : Room k callerA)
    (F : ∀ base : Heap, K.In base → base.Ns mainGlobals mg → (∃ mm, base.Ns sysModules mm) → GOk P w K mg base CX0 k fa fd [x] sp)
    (bind : ∀ (s : Shared) (u : Value), BindsTo s fd ⟨[u], []⟩ [(x, u)])
    (hsp : ∀ H : Hp, Only H → SqL K H a (ns.map V.int) → sp [.ref a] H (fun v _ => v = .bl true) fun _ _ _ => False) :
    codeAny (model P w) callerA (.call (.ref fa) ⟨[.ref a], []⟩)
      (fun r s' => r = .ok (.ret (.bool true)) ∧ OldK s.heap s'.heap ∧ s'.os = s.os ∧ AllBare s'.gens) s := by
  have rv := vals_ints hi
  have all : ∀ H : Hp, Only H → SqL K H a (ns.map V.int) → HOk P w H s.heap → (∀ b, H b ≠ none → b = a ∧ K.lookup b = none) →
      codeAny (model P w) callerA (.call (.ref fa) ⟨[.ref a], []⟩)
        (fun r s' => r = .ok (.ret (.bool true)) ∧ OldK s.heap s'.heap ∧ s'.os = s.os ∧ AllBare s'.gens) s := by
    intro H on sq hok only
    obtain ⟨en, nsk, kin⟩ := env_of KX hg hb hbb hlim hgen ha only hok
    have sm : ∃ mm, (hidT s.heap H).Ns sysModules mm := by
      obtain ⟨mm, q⟩ := hm
      exact ⟨mm, nsk _ _ q⟩
    refine codeAny_mono ((F _ kin (nsk _ _ hg) sm).goes callerA [] s H ⟨[.ref a], []⟩ [.ref a] [.ref a] _ _ rfl hr en (bind s (.ref a)) (.cons rfl .nil) (hsp H on sq)) ?_
    intro r s' h
    match r, h with
    | .error e, h => exact False.elim h
    | .ok (.ret u), h =>
      obtain ⟨v, H', os, bare, un, hok', ru, q⟩ := h
      have q' : v = .bl true := q
      subst q'
      cases (show u = Value.bool true from ru)
      refine ⟨rfl, OldK.of_keep fun b o e => ?_, os, bare⟩
      by_cases q : H b = none
      · exact un.keep b o e q (fun z => nomatch z) (fun z => nomatch z)
      · rcases on b with z | ⟨ob, xs, z⟩
        · exact absurd z q
        · have e1 := (hok b _ z).1
          have e2 := (hok' b _ (un.frzs b ob _ z)).1
          rw [e1] at e
          rw [e2]
          exact e
    | .ok .next, h => exact False.elim h
    | .ok .brk, h => exact False.elim h
    | .ok .cont, h => exact False.elim h
  cases hk : K.lookup a with
  | some o =>
    have e := KX a o hk
    rw [ha] at e
    cases e
    exact all (fun _ => none) (fun _ => .inl rfl)
      (.inr ⟨_, vs.toArray, _, hk, rfl, rfl, rfl, by rw [List.size_toArray, hi.length]; exact hl, by simpa using rv⟩)
      (fun b u z => by cases z) (fun b z => absurd rfl z)
  | none =>
    have at_ : ∀ b : Addr, b ≠ a → (fun b : Addr => if b = a then some (HO.frz { cls := .type "list", data := .seq vs.toArray } (.lst (ns.map V.int))) else none) b = none := fun b hb => if_neg hb
    refine all (fun b => if b = a then some (.frz { cls := .type "list", data := .seq vs.toArray } (.lst (ns.map V.int))) else none) ?_ ?_ ?_ ?_
    · intro b
      by_cases hb : b = a
      · exact .inr ⟨_, _, if_pos hb⟩
      · exact .inl (at_ b hb)
    · exact .inl (.inr ⟨{ cls := .type "list", data := .seq vs.toArray }, if_pos rfl⟩)
    · intro b u z
      dsimp only at z
      by_cases hb : b = a
      · subst hb
        rw [if_pos rfl] at z
        cases z
        exact ⟨ha, by rw [List.length_map]; exact hl, vs, _, rv, ha⟩
      · rw [if_neg hb] at z
        cases z
    · intro b z
      by_cases hb : b = a
      · exact ⟨hb, by rw [hb]; exact hk⟩
      · exact absurd (at_ b hb) z
/-- the end of a law whose def reprs; the script's bits told -/
theorem walk_G {l : PySem.W.OpenLaw} {n k : Nat} {q : Program} {loose : List Str} {XP : (Str → Option Value) → Heap → Prop} {YP : World → Heap → Prop} {d : DefRec} {K : Params → PySem.W.Frag} {sp : World → Sp} {x : Str}
    (hn : l.most = some n) (hn2 : n ≤ sizeLine) (hdf : d.params.defaults = []) (hi : importsNone q = true) (hr : Room k callerA)
    (hY : ∀ (w : World) (h : Heap), YP w h → (K w.params).In h)
    (F : ∀ (w : World) (mg : Str → Option Value) (fa : Addr) (h : Heap), (K w.params).In h → h.Ns mainGlobals mg → mg d.name = some (.ref fa) →
      ∃ fd : FuncData, (∀ (s : Shared) (u : Value), BindsTo s fd ⟨[u], []⟩ [(x, u)]) ∧
        ∀ base : Heap, (K w.params).In base → base.Ns mainGlobals mg → (∃ mm, base.Ns sysModules mm) → GOk l.prog w (K w.params) mg base CX0 k fa fd [x] (sp w))
    (hsp : ∀ (w : World) (H : Hp) (a : Addr) (ns : List Int), ns.length ≤ n → (∀ z ∈ ns, Builtin.Int.intBits z ≤ 1048576) → Only H → SqL (K w.params) H a (ns.map V.int) → sp w [.ref a] H (fun v _ => v = .bl true) fun _ _ _ => False) :
    PySem.W.WalkO q loose XP YP l.row.toRowW d [] (fun f vs => PySem.call f vs) := by
  refine Att.attach_callB hn hdf ?_
  intro w s₀ s₁ mg mb fa o pm cd doc a vs ns G Y ho hd hcd hmg hobj hints hlen hbits hg
  have KX := hY w _ Y
  obtain ⟨fd, bnd, hF⟩ := F w mg fa _ KX G.T.g hmg
  have sm : ∃ mm, s₁.heap.Ns sysModules mm := by
    obtain ⟨mm, z, _⟩ := (G.T.seer hi).mods
    exact ⟨mm, z⟩
  exact run_law KX G.T.g G.T.b sm G.T.builtins G.T.nolimit hg hobj hints (Nat.le_trans hlen hn2) hr hF bnd fun H on sq => hsp w H a ns hlen hbits on sq
end LL
/-! data that may hold dicts; repr of them; literals -/
namespace LL
open PySem PySem.Spec PyProof.Rows L2
def kD : Key → PyData
  | .inl i => .int i
  | .inr x => .str x
mutual
inductive Dq (K : PySem.W.Frag) (H : Hp) : V → PyData → Prop
  | non : Dq K H .non .none
  | bl (b : Bool) : Dq K H (.bl b) (.bool b)
  | int (i : Int) : Dq K H (.int i) (.int i)
  | str (x : Str) : Dq K H (.str x) (.str x)
  | lst {a : Addr} {xs : List V} {ds : List PyData} (h : SqL K H a xs) (r : DqAll K H xs ds) : Dq K H (.ref a) (.list ds)
  | tup {a : Addr} {xs : List V} {ds : List PyData} (h : SqT K H a xs) (r : DqAll K H xs ds) : Dq K H (.ref a) (.tuple ds)
  | dct {a : Addr} {kvs : List (Key × V)} {ds : List PyData} (h : H a = some (.dK kvs)) (r : DqAll K H (kvs.map (·.2)) ds) : Dq K H (.ref a) (.dict ((kvs.map fun p => kD p.1).zip ds))
inductive DqAll (K : PySem.W.Frag) (H : Hp) : List V → List PyData → Prop
  | nil : DqAll K H [] []
  | cons {v : V} {vs : List V} {d : PyData} {ds : List PyData} (h : Dq K H v d) (r : DqAll K H vs ds) : DqAll K H (v :: vs) (d :: ds)
end
theorem DqAll.length {K : PySem.W.Frag} {H : Hp} : ∀ {vs : List V} {ds : List PyData}, DqAll K H vs ds → vs.length = ds.length
  | _, _, .nil => rfl
  | _, _, .cons _ r => by rw [List.length_cons, List.length_cons, DqAll.length r]
theorem DqAll.get {K : PySem.W.Frag} {H : Hp} : ∀ {vs : List V} {ds : List PyData} {i : Nat} {v : V}, DqAll K H vs ds → vs[i]? = some v → ∃ d, ds[i]? = some d ∧ Dq K H v d
  | _, _, 0, _, .cons h _, e => by cases e; exact ⟨_, rfl, h⟩
  | _, _, i + 1, v, .cons _ r, e => DqAll.get (i := i) r e
theorem DqAll.append {K : PySem.W.Frag} {H : Hp} : ∀ {vs ws : List V} {ds es : List PyData}, DqAll K H vs ds → DqAll K H ws es → DqAll K H (vs ++ ws) (ds ++ es)
  | _, _, _, _, .nil, s => s
  | _, _, _, _, .cons h r, s => .cons h (DqAll.append r s)
theorem Same.seqT {K : PySem.W.Frag} {H H' : Hp} {a : Addr} {xs : List V} (e : Same H H') (h : SqT K H a xs) : SqT K H' a xs := by
  rcases h with (h | ⟨o, h⟩) | h
  · exact .inl (.inl (e _ _ h))
  · exact .inl (.inr ⟨o, e _ _ h⟩)
  · exact .inr h
mutual
theorem Dq.up {K : PySem.W.Frag} {H H' : Hp} (e : Same H H') : ∀ {v : V} {d : PyData}, Dq K H v d → Dq K H' v d
  | _, _, .non => .non
  | _, _, .bl b => .bl b
  | _, _, .int i => .int i
  | _, _, .str x => .str x
  | _, _, .lst h r => .lst (e.seq h) (DqAll.up e r)
  | _, _, .tup h r => .tup (Same.seqT e h) (DqAll.up e r)
  | _, _, .dct h r => .dct (e _ _ h) (DqAll.up e r)
theorem DqAll.up {K : PySem.W.Frag} {H H' : Hp} (e : Same H H') : ∀ {v : List V} {d : List PyData}, DqAll K H v d → DqAll K H' v d
  | _, _, .nil => .nil
  | _, _, .cons h r => .cons (Dq.up e h) (DqAll.up e r)
end
section
variable {X : Cx} {pins : List (Addr × Obj)} {σ : L2.St} {H : Hp} {s : Shared}
theorem keys_read {h : Heap} {P : Program} {w : World} : ∀ {es : List DictEntry} {kvs : List (Key × V)} {vs : List (Key × Value)}, Pairs (mixKind P w) es vs → KV kvs vs → ReadsAll h (es.map (·.key)) (kvs.map fun p => kD p.1) []
  | _, _, _, .nil, r => by cases r; exact .nil
  | _, _, _, .cons (e := e) (kv := kv) hk hv q, r => by
    cases r with
    | cons r1 r2 =>
      rename_i p ps
      have t := keys_read (h := h) q r2
      have one : Reads h e.key (kD p.1) [] := by
        rw [r1.1]
        rcases keyIs_shape (show keyIs kv.1 e.key = true from hk) with ⟨i, u, z1, z2⟩ | ⟨x, u, z1, z2⟩
        · rw [z1, z2]; exact .int i u
        · rw [z1, z2]; exact .str x u
      exact ReadsAll.cons one t
theorem vals_of {P : Program} {w : World} : ∀ {es : List DictEntry} {kvs : List (Key × V)} {vs : List (Key × Value)}, Pairs (mixKind P w) es vs → KV kvs vs → Vals (kvs.map (·.2)) (es.map (·.val))
  | _, _, _, .nil, r => by cases r; exact .nil
  | _, _, _, .cons (e := e) (kv := kv) hk hv q, r => by
    cases r with
    | cons r1 r2 => exact .cons (by show RelV _ e.val; rw [hv]; exact r1.2) (vals_of q r2)
mutual
theorem Dq.reads (I : Inv X pins σ H s) (sm : ∃ mm, s.heap.Ns sysModules mm) : ∀ {v : V} {d : PyData} {u : Value}, Dq X.K H v d → RelV v u → ∃ as, Reads s.heap u d as ∧ sysModules ∉ as
  | _, _, _, .non, r => by cases r; exact ⟨_, .none, by simp⟩
  | _, _, _, .bl b, r => by cases r; exact ⟨_, .bool b, by simp⟩
  | _, _, _, .int i, r => by obtain ⟨t, rfl⟩ := r; exact ⟨_, .int i t, by simp⟩
  | _, _, _, .str x, r => by obtain ⟨t, rfl⟩ := r; exact ⟨_, .str x t, by simp⟩
  | _, _, _, .lst h q, r => by
    cases r
    obtain ⟨its, rv, ⟨o, n, ho, hc, _, hd⟩, _⟩ := I.list h
    obtain ⟨as, hr, na⟩ := DqAll.reads I sm q rv
    refine ⟨_, Reads.list ho hc hd hr, ?_⟩
    rw [List.mem_cons]
    rintro (z | z)
    · obtain ⟨mm, o', es, ep, e, d, _⟩ := sm
      rw [z, ho] at e
      cases e
      rw [hd] at d
      cases d
    · exact na z
  | _, _, _, .tup h q, r => by
    cases r
    obtain ⟨its, rv, ⟨o, ho, hc, n, hd⟩, _⟩ := I.tuple h
    obtain ⟨as, hr, na⟩ := DqAll.reads I sm q rv
    exact ⟨_, Reads.tuple ho hc hd hr, na⟩
  | _, _, _, .dct (kvs := kvs) (ds := ds) h q, r => by
    cases r
    obtain ⟨_, ns, vs, kv, o, es, ep, ho, hx, hd, _, pr, _⟩ := I.hok _ _ h
    obtain ⟨as, hr, na⟩ := DqAll.reads I sm q (vals_of pr kv)
    have hl : (kvs.map fun p => kD p.1).length = ds.length := by
      have z := q.length
      rw [List.length_map] at z ⊢
      exact z
    refine ⟨_, Reads.dict ho hx.1 hd (as := []) (bs := as) ?_ ?_, ?_⟩
    · rw [List.map_fst_zip (Nat.le_of_eq hl)]
      exact keys_read pr kv
    · rw [List.map_snd_zip (Nat.le_of_eq hl.symm)]
      exact hr
    · rw [List.cons_append, List.nil_append, List.mem_cons]
      rintro (z | z)
      · rw [← z] at ns
        simp at ns
      · exact na z
theorem DqAll.reads (I : Inv X pins σ H s) (sm : ∃ mm, s.heap.Ns sysModules mm) : ∀ {v : List V} {d : List PyData} {u : List Value}, DqAll X.K H v d → Vals v u → ∃ as, ReadsAll s.heap u d as ∧ sysModules ∉ as
  | _, _, _, .nil, r => by cases r; exact ⟨_, .nil, by simp⟩
  | _, _, _, .cons h q, r => by
    cases r with
    | cons r1 r2 =>
      obtain ⟨as, z1, n1⟩ := Dq.reads I sm h r1
      obtain ⟨bs, z2, n2⟩ := DqAll.reads I sm q r2
      refine ⟨_, ReadsAll.cons z1 z2, ?_⟩
      rw [List.mem_append]
      rintro (z | z)
      · exact n1 z
      · exact n2 z
end
/-- repr(v) of such data -/
def rRepr (K : PySem.W.Frag) : List V → Hp → VK → Prop := fun xs H Q => ∃ (v : V) (d : PyData), xs = [v] ∧ Dq K H v d ∧ d.showable = true ∧ d.depth ≤ 60 ∧ d.shown.length ≤ sizeLine ∧ Q (.str d.shown) H
theorem call_repr (hg : X.A.guards = some []) (hu : X.A.units + 64 < cLine) (sm : ∃ mm, X.base.Ns sysModules mm) : CallR X (.builtin "repr") (rRepr X.K) := by
  intro pins s σ H xs us Q I r h
  obtain ⟨v, d, rfl, hd, hs, hz, hl, q⟩ := h
  obtain ⟨u, rfl, ru⟩ := vals1 r
  have sm' : ∃ mm, s.heap.Ns sysModules mm := by
    obtain ⟨mm, z⟩ := sm
    exact ⟨mm, z.keeps I.bk⟩
  cases hd with
  | non =>
    cases ru
    rw [PyData.shown_none] at q
    exact PySem.P.repr_of_none ⟨.str _, H, I.tok _, ⟨_, rfl⟩, q⟩
  | bl b =>
    cases ru
    rw [PyData.shown_bool] at q
    exact PySem.P.repr_of_bool ⟨.str _, H, I.tok _, ⟨_, rfl⟩, q⟩
  | int i =>
    obtain ⟨t, rfl⟩ := ru
    rw [PyData.shown_int] at q
    exact PySem.P.repr_of_int (by simpa [PyData.showable] using hs) ⟨.str _, H, I.tok _, ⟨_, rfl⟩, q⟩
  | str x =>
    obtain ⟨t, rfl⟩ := ru
    rw [PyData.shown_str] at q hl
    exact PySem.P.repr_of_str ⟨.str _, H, I.tok _, ⟨_, rfl⟩, q⟩ hl
  | lst a b =>
    obtain ⟨as, simp_wf, na⟩ := Dq.reads I sm' (.lst a b) ru
    cases ru
    exact repr_of_reads' simp_wf hs (fun _ => na) hg (by omega) (fun _ _ e => e) (fun h' u tk hk => ⟨.str _, H, I.kept hk, ⟨u, rfl⟩, q⟩) hl
  | tup a b =>
    obtain ⟨as, simp_wf, na⟩ := Dq.reads I sm' (.tup a b) ru
    cases ru
    exact repr_of_reads' simp_wf hs (fun _ => na) hg (by omega) (fun _ _ e => e) (fun h' u tk hk => ⟨.str _, H, I.kept hk, ⟨u, rfl⟩, q⟩) hl
  | dct a b =>
    obtain ⟨as, simp_wf, na⟩ := Dq.reads I sm' (.dct a b) ru
    cases ru
    exact repr_of_reads' simp_wf hs (fun _ => na) hg (by omega) (fun _ _ e => e) (fun h' u tk hk => ⟨.str _, H, I.kept hk, ⟨u, rfl⟩, q⟩) hl
end
end LL
/-! literals: what they are as data, apart from each thing that stood before -/
namespace LL
open PySem PySem.Spec PyProof.Rows L2
/-- the tracked heap without b -/
def wo (H : Hp) (b : Addr) : Hp := fun c => if c = b then none else H c
theorem wo_ne {H : Hp} {b c : Addr} (h : c ≠ b) : wo H b c = H c := if_neg h
theorem wo_self {H : Hp} {b : Addr} : wo H b b = none := if_pos rfl
theorem wo_same {H : Hp} {b : Addr} : Same (wo H b) H := fun c o e => by
  by_cases h : c = b
  · rw [h, wo_self] at e; cases e
  · rwa [wo_ne h] at e
theorem wo_up {H H' : Hp} {b : Addr} (s : Same H H') : Same (wo H b) (wo H' b) := fun c o e => by
  by_cases h : c = b
  · rw [h, wo_self] at e; cases e
  · rw [wo_ne h] at e ⊢; exact s c o e
theorem wo_at {H : Hp} {b c : Addr} {o : HO} (h : H c = some o) (n : c ≠ b) : wo H b c = some o := by rw [wo_ne n]; exact h
/-- all but b is as it was -/
def But (b : Addr) (H H' : Hp) : Prop := ∀ c o, c ≠ b → H c = some o → H' c = some o
theorem But.wo {b : Addr} {H H' : Hp} (s : But b H H') : Same (wo H b) (wo H' b) := fun c o e => by
  by_cases h : c = b
  · rw [h, wo_self] at e; cases e
  · rw [wo_ne h] at e ⊢; exact s c o h e
theorem But.of {b : Addr} {H H' : Hp} (s : Same H H') : But b H H' := fun c o _ e => s c o e
theorem But.trans {b : Addr} {H H1 H2 : Hp} (s : But b H H1) (t : But b H1 H2) : But b H H2 := fun c o n e => t c o n (s c o n e)
theorem But.upd {b : Addr} {H : Hp} {o : HO} : But b H (upd H b o) := fun c u n e => by rw [upd_ne n]; exact e
theorem same_new {H : Hp} {p : Addr} {o : HO} (h : H p = none) : Same H (upd H p o) := fun c u e => by
  rw [upd_ne (ne_of_none e h)]; exact e
/-- v is d at H', and shares nothing that can change with what stood at H -/
structure Fresh (K : PySem.W.Frag) (H H' : Hp) (v : V) (d : PyData) : Prop where
  dat : Dq K H' v d
  sep : ∀ b, H b ≠ none → Dq K (wo H' b) v d
structure FreshAll (K : PySem.W.Frag) (H H' : Hp) (vs : List V) (ds : List PyData) : Prop where
  dat : DqAll K H' vs ds
  sep : ∀ b, H b ≠ none → DqAll K (wo H' b) vs ds
def tLit (K : PySem.W.Frag) (d : PyData) : TE := fun σ H Q => ∀ v H', Same H H' → Fresh K H H' v d → Q v H'
/-- a written list, with its place -/
def tLitL (K : PySem.W.Frag) (ds : List PyData) : TE := fun σ H Q => ∀ p vs H', Same H H' → H p = none → H' p = some (.lst vs) → FreshAll K H H' vs ds → Q (.ref p) H'
def tLits (K : PySem.W.Frag) (ds : List PyData) : TA := fun σ H Q => ∀ vs H', Same H H' → FreshAll K H H' vs ds → Q vs H'
section
variable {X : Cx} {e : Expr} {es : List Expr} {d : PyData} {ds : List PyData} {pos : Pos}
theorem imp {t t' : TE} (h : PE X e t) (w : ∀ σ H Q, t' σ H Q → t σ H Q) : PE X e t' := ⟨fun pins s σ H Q I q => h.run pins s σ H Q I (w σ H Q q)⟩
theorem impA {t t' : TA} (h : PA X es t) (w : ∀ σ H Q, t' σ H Q → t σ H Q) : PA X es t' := ⟨fun pos pins s σ H Q I q => h.run pos pins s σ H Q I (w σ H Q q)⟩
theorem lit_non {j : Nat} : PE X (.Constant .none j pos) (tLit X.K .none) := imp pe_non fun σ H Q q => q _ _ (Same.refl _) ⟨.non, fun _ _ => .non⟩
theorem lit_bl {b : Bool} {j : Nat} : PE X (.Constant (.bool b) j pos) (tLit X.K (.bool b)) := imp pe_bl fun σ H Q q => q _ _ (Same.refl _) ⟨.bl _, fun _ _ => .bl _⟩
theorem lit_int {i : Int} {j : Nat} : PE X (.Constant (.int i) j pos) (tLit X.K (.int i)) := imp pe_int fun σ H Q q => q _ _ (Same.refl _) ⟨.int _, fun _ _ => .int _⟩
theorem lit_str {x : Str} {j : Nat} : PE X (.Constant (.str x) j pos) (tLit X.K (.str x)) := imp pe_str fun σ H Q q => q _ _ (Same.refl _) ⟨.str _, fun _ _ => .str _⟩
theorem lit_neg {i : Int} {e : Expr} (h : PE X e (tLit X.K (.int i))) : PE X (.UnaryOp .USub e pos) (tLit X.K (.int (-i))) :=
  imp (pe_un un_neg h) fun σ H Q q v H' s f => by
    cases f.dat
    exact ⟨i, rfl, q _ _ s ⟨.int _, fun _ _ => .int _⟩⟩
theorem lit_pow {i n : Int} {j j' : Nat} {p p' : Pos} (hi : i.natAbs < 2 ^ 64 := by decide) (h0 : 0 ≤ n := by decide) (hn : n ≤ 1000000 := by decide) : PE X (.BinOp (.Constant (.int i) j p) .Pow (.Constant (.int n) j' p') pos) (tLit X.K (.int (i ^ n.toNat))) :=
  imp (pe_op op_pow pe_int pe_int) fun σ H Q q => ⟨i, n, rfl, rfl, ⟨h0, hn, hi⟩, q _ _ (Same.refl _) ⟨.int _, fun _ _ => .int _⟩⟩
theorem lits_nil : PA X [] (tLits X.K []) := impA pa_nil fun σ H Q q => q _ _ (Same.refl _) ⟨.nil, fun _ _ => .nil⟩
theorem lits_cons (h : PE X e (tLit X.K d)) (r : PA X es (tLits X.K ds)) (hs : starEach (e :: es) X.env = (false, eval e X.env) :: starEach es X.env := by rfl) : PA X (e :: es) (tLits X.K (d :: ds)) :=
  impA (pa_cons h r hs) fun σ H Q q v H1 s1 f1 vs H2 s2 f2 => q _ _ (s1.trans s2) ⟨.cons (f1.dat.up s2) f2.dat, fun b hb => .cons ((f1.sep b hb).up (wo_up s2)) (f2.sep b fun z => hb (s1.free z))⟩
theorem lit_tup {k : Nat} (h : PA X es (tLits X.K ds)) (hl : ds.length ≤ 1000 := by decide) : PE X (.Tuple es k pos) (tLit X.K (.tuple ds)) :=
  imp (pe_tup h) fun σ H Q q vs H1 s1 f1 => ⟨by rw [f1.dat.length]; exact Nat.le_of_lt (small1000 hl), fun p np => q _ _ (s1.trans (same_new np))
    ⟨.tup (.inl (.inl upd_same)) (f1.dat.up (same_new np)), fun b hb => .tup (.inl (.inl (wo_at upd_same fun z => hb (s1.free (by rw [← z]; exact np))))) ((f1.sep b hb).up (wo_up (same_new np)))⟩⟩
theorem lit_lst (h : PA X es (tLits X.K ds)) (hl : ds.length ≤ 1000 := by decide) : PE X (.List es pos) (tLit X.K (.list ds)) :=
  imp (pe_lst h) fun σ H Q q vs H1 s1 f1 => ⟨by rw [f1.dat.length]; exact Nat.le_of_lt (small1000 hl), fun p np => q _ _ (s1.trans (same_new np))
    ⟨.lst (.inl (.inl upd_same)) (f1.dat.up (same_new np)), fun b hb => .lst (.inl (.inl (wo_at upd_same fun z => hb (s1.free (by rw [← z]; exact np))))) ((f1.sep b hb).up (wo_up (same_new np)))⟩⟩
theorem lit_lstT (h : PA X es (tLits X.K ds)) (hl : ds.length ≤ 1000 := by decide) : PE X (.List es pos) (tLitL X.K ds) :=
  imp (pe_lst h) fun σ H Q q vs H1 s1 f1 => ⟨by rw [f1.dat.length]; exact Nat.le_of_lt (small1000 hl), fun p np => q p vs _ (s1.trans (same_new np)) (s1.free np) upd_same
    ⟨f1.dat.up (same_new np), fun b hb => (f1.sep b hb).up (wo_up (same_new np))⟩⟩
theorem lit_d0 : PE X (.Dict [] [] pos) (tLit X.K (.dict [])) :=
  imp pe_dnewK fun σ H Q q p np => q _ _ (same_new np)
    ⟨.dct (kvs := []) (ds := []) upd_same .nil, fun b hb => .dct (kvs := []) (ds := []) (wo_at upd_same fun z => hb (by rw [← z]; exact np)) .nil⟩
/-- {x: e}, x a written text, e written and flat -/
theorem lit_d1 {x : Str} {i : Int} {j j' : Nat} {p p' : Pos} : PE X (.Dict [some (.Constant (.str x) j p)] [.Constant (.int i) j' p'] pos) (tLit X.K (.dict [(.str x, .int i)])) :=
  imp (pe_disp (pps_cons pe_str pe_int pps_nil) (by rfl) (by rfl) (fun z => by cases z) (by show 1 ≤ 15; decide)) fun σ H Q q p np =>
    ⟨upd_same, [(.inr x, .int i)], rfl, by show 1 ≤ 15; decide, by
      rw [upd_upd]
      refine q _ _ (same_new np) ⟨.dct (kvs := [(.inr x, .int i)]) (ds := [.int i]) upd_same (.cons (.int i) .nil), fun b hb => .dct (kvs := [(.inr x, .int i)]) (ds := [.int i]) (wo_at upd_same fun z => hb (by rw [← z]; exact np)) (.cons (.int i) .nil)⟩⟩
end
theorem wo_upd {H : Hp} {b : Addr} {o : HO} : wo (upd H b o) b = wo H b := by
  funext c
  by_cases h : c = b
  · rw [h, wo_self, wo_self]
  · rw [wo_ne h, wo_ne h, upd_ne h]
theorem DqAll.mem {K : PySem.W.Frag} {H : Hp} {v : V} : ∀ {vs : List V} {ds : List PyData}, DqAll K H vs ds → v ∈ vs → ∃ d, d ∈ ds ∧ Dq K H v d
  | _, _, .nil, h => by cases h
  | _, _, .cons q r, h => by
    rcases List.mem_cons.mp h with rfl | h
    · exact ⟨_, List.mem_cons_self, q⟩
    · obtain ⟨d, m, z⟩ := DqAll.mem r h
      exact ⟨d, List.mem_cons_of_mem _ m, z⟩
end LL
/-! own errors as values: made by their __init__, over any built-in base -/
namespace LL
open PySem PySem.W PySem.Calls PyProof.Rows Builtin Builtin.ObjectAttr
/-- what the written part says of an error's class -/
structure ExT (K : Frag) (C : Addr) (bmB : List Value) (newId : String) : Prop where
  own : excInitIn K C bmB newId = true
  over : excOver K C bmB = true
  sa : findIn K (.ref C) "__setattr__" = some (some (.builtin "object.__setattr__"))
  hd : hasDictIn K C = true
  ga : findIn K (.ref C) "__getattribute__" = some (some (.builtin "BaseException.__getattribute__"))
  gg : findIn K (.ref C) "__getattr__" = some none
  sub : subIn K (.ref C) (.type "BaseException") = some true
  kp : keepIn K (.ref C) = true
section
variable {prog : Program} {w : World} {A : Around} {E : Value → Shared → Prop} {R : Result → Shared → Prop} {K : Frag} {C x : Addr} {B newId initId : String} {bmB : List Value}
  {hp : Heap} {g : Array GenState} {d : Drawn} {t : Nat} {os : OsState}
theorem no_taker {n : Str} (h : findIn K (.ref C) n = some none) : takerIn K C n = some none := by
  unfold takerIn
  rw [h]
  rfl
/-- the first field: the dict is laid -/
theorem put_first {n : Str} {tk : Tok} {v : Value} {t0 : Addr} (SF : StoreFacts B bmB "object.__setattr__" "object") (T : ExT K C bmB newId) (no : findIn K (.ref C) n = some none) (X : K.In hp)
    (hx : hp.get? x = some (HandSPX.excO C t0))
    (hq : ∀ h' tk' dx, (∀ b o, b ≠ x → hp.get? b = some o → h'.get? b = some o) → hp.objs.size ≤ dx → dx ≠ x → h'.get? x = some { HandSPX.excO C t0 with dict := some dx } →
      h'.Ns1 dx (fun y => if y = n then some v else none) → R (.ok (.ret .none)) ⟨h', g, d, tk', os⟩) :
    codeAny (model prog w) A (.call (.builtin "object.__setattr__") ⟨[.ref x, .str n tk, v], []⟩) R ⟨hp, g, d, t, os⟩ := by
  have ne : x ≠ hp.objs.size := Nat.ne_of_lt (Heap.lt_size hx)
  refine osa_openX (s := ⟨hp, g, d, t, os⟩) (od := none) SF X ⟨hx, rfl, rfl, trivial⟩ T.over (no_taker no) fun b => ?_
  obtain ⟨cd, hc, hd'⟩ := any_some T.hd
  refine wpAny_bind (wpAny_pure (wpAny_bind (instanceDict_exc (t := t0) (c2 := .none) hx (looks_clsIn X hc) hd' ?_)))
  show wpAny _ _ (storeInDict hp.objs.size (.str n tk) n v) _ _ _
  refine PX.store_in_new ?_ ?_
  · exact ⟨_, #[], _, (Heap.get?_update_ne _ _ _ _ ne.symm).trans (Heap.get?_push_at rfl rfl), rfl, fun e he => absurd he (by simp), fun _ => rfl⟩
  · intro h' tk' ns sb
    refine hq h' tk' hp.objs.size (fun b o hb ho => ?_) (Nat.le_refl _) ne.symm ?_ ns
    · rw [sb.2 b (Nat.ne_of_lt (Heap.lt_size ho)), Heap.get?_update_ne _ _ _ _ hb]
      exact Heap.get?_push_of_some _ ho
    · rw [sb.2 x ne, Heap.get?_update_self _ (Heap.get?_push_of_some _ hx) rfl]
/-- a further one -/
theorem put_next {n : Str} {tk : Tok} {v : Value} {t0 dx : Addr} {m0 : Str → Option Value} {nl : List Str} (SF : StoreFacts B bmB "object.__setattr__" "object") (T : ExT K C bmB newId) (no : findIn K (.ref C) n = some none) (X : K.In hp)
    (hx : hp.get? x = some { HandSPX.excO C t0 with dict := some dx }) (hns : hp.Ns1 dx m0) (hw : Within m0 nl) (hz : nl.length ≤ 1000)
    (hq : ∀ h' tk', (∀ b o, b ≠ dx → hp.get? b = some o → h'.get? b = some o) → h'.Ns1 dx (fun y => if y = n then some v else m0 y) → R (.ok (.ret .none)) ⟨h', g, d, tk', os⟩) :
    codeAny (model prog w) A (.call (.builtin "object.__setattr__") ⟨[.ref x, .str n tk, v], []⟩) R ⟨hp, g, d, t, os⟩ := by
  obtain ⟨oD, _, _, hoD, hdD, _⟩ := hns.count hw
  refine osa_openX (s := ⟨hp, g, d, t, os⟩) (od := some oD) SF X ⟨hx, rfl, rfl, hoD⟩ T.over (no_taker no) fun b => ?_
  obtain ⟨cd, hc, hd'⟩ := any_some T.hd
  refine wpAny_bind (wpAny_pure (wpAny_bind (wpAny_bind (wpAny_loadPart hx (wpAny_bind ((looks_clsIn X hc).here ?_))))))
  rw [hd']
  refine wpAny_pure (a := some dx) ?_
  exact PX.store_in_old hns hw hz fun h' tk' ns sb => hq h' tk' (fun b o hb ho => by rw [sb.2 b hb]; exact ho) ns
end
end LL
namespace LL
open PySem PySem.W PySem.Calls PyProof.Rows Builtin Builtin.ObjectAttr
/-- what making an error leaves -/
structure Made (h h' : Heap) (e C dx : Addr) (m : Str → Option Value) : Prop where
  keep : ∀ b o, h.get? b = some o → h'.get? b = some o
  big : h.objs.size ≤ e
  obj : ∃ t1, h'.get? e = some { HandSPX.excO C t1 with dict := some dx }
  dbig : h.objs.size ≤ dx
  ne : dx ≠ e
  ns : h'.Ns1 dx m
section
variable {prog : Program} {w : World} {A : Around} {E : Value → Shared → Prop} {R : Result → Shared → Prop} {s : Shared} {K : Frag} {C x fI : Addr} {B newId initId : String} {bmB : List Value} {n n2 : Str} {qual : Str} {st : Stmt} {fd : FuncData}
theorem ld {M : Model} {s : Shared} {name : Str} {scope : Scope} {L a : Addr} {cd : Value} {m : Str → Option Value} {y : Str} {pos : Pos} {v : Value} {Q : Value → Shared → Prop} {A : Around} {E : Value → Shared → Prop} (hn : s.heap.Ns L m) (hv : m y = some v) (h : Q v s)
    (hk : scope.kind = .function) (hl : scope.names.lookup y = some .local) (hd : (y == ("__debug__" : Str)) = false) :
    wpAny M A (eval (.Name y pos) (envOfC name scope L a cd)) Q E s := wpAny_Name (wpAny_loadName_local hk hl hn hv h) hd
theorem ns_keep {h h' : Heap} {a : Addr} {m : Str → Option Value} (y : h.Ns a m) (k : ∀ o, h.get? a = some o → h'.get? a = some o) : h'.Ns a m := by
  obtain ⟨o, es, ep, e, r⟩ := y
  exact ⟨o, es, ep, k o e, r⟩
theorem init1 (SF : StoreFacts B bmB "object.__setattr__" "object") (T : ExT K C bmB newId) (no : findIn K (.ref C) n = some none)
    (F : L2.Fun K "__init__" qual st fI fd) (Sc : L2.FnScope ["self", n] ["self", n] (L2.defScope st)) (bd : L2.Binds K fd ["self", n] [])
    (l1 : (L2.defScope st).names.lookup ("self" : Str) = some .local) (l2 : (L2.defScope st).names.lookup n = some .local) (nd : (n == ("__debug__" : Str)) = false)
    {q1 q2 q3 q4 : Pos} (hb : L2.defBody st = [.Assign [.Attribute (.Name "self" q1) n q2] (.Name n q3) q4])
    {t0 : Addr} {v : Value} (X : K.In s.heap) (lim : s.heap.NoLimit) (hx : s.heap.get? x = some (HandSPX.excO C t0)) (room : A.depth < recursionLimit)
    (hq : ∀ h' tk dx, (∀ b o, b ≠ x → s.heap.get? b = some o → h'.get? b = some o) → h'.get? x = some { HandSPX.excO C t0 with dict := some dx } → s.heap.objs.size ≤ dx → dx ≠ x →
      h'.Ns1 dx (fun y => if y = n then some v else none) → R (.ok (.ret .none)) { s with heap := h', toks := tk }) :
    codeAny (model prog w) A (.call (.ref fI) ⟨[.ref x, v], []⟩) R s := by
  obtain ⟨oc, od, kV, doc, pm, an, cdv, ct, osl, rfl, lk, hcd⟩ := F.ex
  refine codeAny_call_function room (X _ _ lk) rfl Sc.co Sc.gen rfl (codeRec_of X hcd)
    (bd s [.ref x, v] X rfl _ _ _ _ (wpAny_newFunctionEnv_cells Sc.kind ?par ?walk))
  case par =>
    rintro ⟨m, u⟩ hy
    cases Sc.par m (List.of_mem_zip hy).1 with
    | inl q => exact .inl q
    | inr q => exact .inr ⟨q, cellsFrom_some _ _ _ (.inl q)⟩
  case walk =>
    intro env he s1 ic
    subst he
    obtain ⟨h1, tk1, rfl, k⟩ := ic.done
    refine ⟨lim.keeps k, codeAny_func ?_⟩
    have ns := ic.toInCall.ns
    have hx1 := k _ _ hx
    rw [hb]
    refine wpAny_execs_cons (plainObj_wpAny_Assign_Attribute ?_)
    refine ld (v := v) ns (L2.bindL_get Sc.nd (i := 1) rfl rfl l2) ?_ Sc.kind l2 nd
    refine ld (v := .ref x) ns (L2.bindL_get Sc.nd (i := 0) rfl rfl l1) ?_ Sc.kind l1 (by decide)
    refine set_plain (X.keeps k) (ox := HandSPX.excO C t0) (od := none) ⟨hx1, rfl, rfl, trivial⟩ T.sa ?_
    refine put_first SF T no (X.keeps k) hx1 ?_
    intro h3 tk3 dx k3 dn dne hx3 hn3
    have z : s.heap.objs.size < h1.objs.size := ns.lt
    exact wpAny_execs_nil (hq h3 tk3 dx (fun b o hb' e => k3 b o hb' (k b o e)) hx3 (Nat.le_of_lt (Nat.lt_of_lt_of_le z dn)) dne hn3)
theorem init2 (SF : StoreFacts B bmB "object.__setattr__" "object") (T : ExT K C bmB newId) (no : findIn K (.ref C) n = some none) (no2 : findIn K (.ref C) n2 = some none)
    (F : L2.Fun K "__init__" qual st fI fd) (Sc : L2.FnScope ["self", n, n2] ["self", n, n2] (L2.defScope st)) (bd : L2.Binds K fd ["self", n, n2] [])
    (l1 : (L2.defScope st).names.lookup ("self" : Str) = some .local) (l2 : (L2.defScope st).names.lookup n = some .local) (l3 : (L2.defScope st).names.lookup n2 = some .local)
    (nd : (n == ("__debug__" : Str)) = false) (nd2 : (n2 == ("__debug__" : Str)) = false)
    {q1 q2 q3 q4 q5 q6 q7 q8 : Pos} (hb : L2.defBody st = [.Assign [.Attribute (.Name "self" q1) n q2] (.Name n q3) q4, .Assign [.Attribute (.Name "self" q5) n2 q6] (.Name n2 q7) q8])
    {t0 : Addr} {v v2 : Value} (X : K.In s.heap) (lim : s.heap.NoLimit) (hx : s.heap.get? x = some (HandSPX.excO C t0)) (hnx : K.lookup x = none) (room : A.depth < recursionLimit)
    (hq : ∀ h' tk dx, (∀ b o, b ≠ x → s.heap.get? b = some o → h'.get? b = some o) → h'.get? x = some { HandSPX.excO C t0 with dict := some dx } → s.heap.objs.size ≤ dx → dx ≠ x →
      h'.Ns1 dx (fun y => if y = n2 then some v2 else if y = n then some v else none) → R (.ok (.ret .none)) { s with heap := h', toks := tk }) :
    codeAny (model prog w) A (.call (.ref fI) ⟨[.ref x, v, v2], []⟩) R s := by
  obtain ⟨oc, od, kV, doc, pm, an, cdv, ct, osl, rfl, lk, hcd⟩ := F.ex
  refine codeAny_call_function room (X _ _ lk) rfl Sc.co Sc.gen rfl (codeRec_of X hcd)
    (bd s [.ref x, v, v2] X rfl _ _ _ _ (wpAny_newFunctionEnv_cells Sc.kind ?par ?walk))
  case par =>
    rintro ⟨m, u⟩ hy
    cases Sc.par m (List.of_mem_zip hy).1 with
    | inl q => exact .inl q
    | inr q => exact .inr ⟨q, cellsFrom_some _ _ _ (.inl q)⟩
  case walk =>
    intro env he s1 ic
    subst he
    obtain ⟨h1, tk1, rfl, k⟩ := ic.done
    refine ⟨lim.keeps k, codeAny_func ?_⟩
    have ns := ic.toInCall.ns
    have hx1 := k _ _ hx
    have ltx : x < s.heap.objs.size := Heap.lt_size hx
    have z : s.heap.objs.size < h1.objs.size := ns.lt
    rw [hb]
    refine wpAny_execs_cons (plainObj_wpAny_Assign_Attribute ?_)
    refine ld (v := v) ns (L2.bindL_get Sc.nd (i := 1) rfl rfl l2) ?_ Sc.kind l2 nd
    refine ld (v := .ref x) ns (L2.bindL_get Sc.nd (i := 0) rfl rfl l1) ?_ Sc.kind l1 (by decide)
    refine set_plain (X.keeps k) (ox := HandSPX.excO C t0) (od := none) ⟨hx1, rfl, rfl, trivial⟩ T.sa ?_
    refine put_first SF T no (X.keeps k) hx1 ?_
    intro h3 tk3 dx k3 dn dne hx3 hn3
    have X3 : K.In h3 := fun a o e => k3 a o (fun y => by rw [y, hnx] at e; cases e) (X.keeps k a o e)
    have ns3 := ns_keep ns fun o e => k3 _ o (Nat.ne_of_gt ltx) e
    refine wpAny_execs_cons (plainObj_wpAny_Assign_Attribute ?_)
    refine ld (v := v2) ns3 (L2.bindL_get Sc.nd (i := 2) rfl rfl l3) ?_ Sc.kind l3 nd2
    refine ld (v := .ref x) ns3 (L2.bindL_get Sc.nd (i := 0) rfl rfl l1) ?_ Sc.kind l1 (by decide)
    have hw := Within.cons n v Within.nil
    obtain ⟨oD, _, _, hoD, _, _⟩ := hn3.count hw
    refine set_plain X3 (ox := { HandSPX.excO C t0 with dict := some dx }) (od := some oD) ⟨hx3, rfl, rfl, hoD⟩ T.sa ?_
    refine put_next SF T no2 X3 hx3 hn3 hw (by simp) ?_
    intro h4 tk4 k4 hn4
    have dnx : ∀ b o, s.heap.get? b = some o → b ≠ dx := fun b o e => Nat.ne_of_lt (Nat.lt_of_lt_of_le (Heap.lt_size (k b o e)) dn)
    exact wpAny_execs_nil (hq h4 tk4 dx (fun b o hb' e => k4 b o (dnx b o e) (k3 b o hb' (k b o e))) (k4 x _ dne.symm hx3) (Nat.le_of_lt (Nat.lt_of_lt_of_le z dn)) dne hn4)
/-- C(v), C(v, v2) -/
theorem made1 (SF : StoreFacts B bmB "object.__setattr__" "object") (FB : ExcBaseFacts B newId initId bmB) (T : ExT K C bmB newId) (no : findIn K (.ref C) n = some none) (iC : findIn K (.ref C) "__init__" = some (some (.ref fI))) (tI : typeIn K (.ref fI) = some (.type "function"))
    (F : L2.Fun K "__init__" qual st fI fd) (Sc : L2.FnScope ["self", n] ["self", n] (L2.defScope st)) (bd : L2.Binds K fd ["self", n] [])
    (l1 : (L2.defScope st).names.lookup ("self" : Str) = some .local) (l2 : (L2.defScope st).names.lookup n = some .local) (nd : (n == ("__debug__" : Str)) = false)
    {q1 q2 q3 q4 : Pos} (hb : L2.defBody st = [.Assign [.Attribute (.Name "self" q1) n q2] (.Name n q3) q4])
    {v : Value} (X : K.In s.heap) (lim : s.heap.NoLimit) (room : A.depth + 1 < recursionLimit)
    (hq : ∀ h' tk e dx, Made s.heap h' e C dx (fun y => if y = n then some v else none) → R (.ok (.ret (.ref e))) { s with heap := h', toks := tk }) :
    codeAny (model prog w) A (.call (.ref C) ⟨[v], []⟩) R s := by
  obtain ⟨nm, N, qn, bs, bm, hdct, sn, sub, ab, col, dd, k0, k1, k2, k3, k5, hC, hT⟩ := excInit_of X T.own
  obtain ⟨hp, g, dr, tk, os⟩ := s
  have kp : ∀ b o, hp.get? b = some o → ((hp.push (kdv_tup [v])).push (HandSPX.excO C hp.objs.size)).get? b = some o := fun b o e => Heap.get?_push_of_some _ (Heap.get?_push_of_some _ e)
  refine HandSPX.call_own FB hT hC (looks_findIn X iC) (fun self => bind_fn X self tI) (by show 1 ≤ sizeLine; decide) ?_
  refine init1 (s := ⟨(hp.push (kdv_tup [v])).push (HandSPX.excO C hp.objs.size), g, dr, tk, os⟩) SF T no F Sc bd l1 l2 nd hb (X.keeps kp) (lim.keeps kp) (by heap_get) (by rw [L2.make_depth]; exact room) ?_
  intro h' tk' dx k' hx dn dne ns
  have z : hp.objs.size + 1 + 1 ≤ dx := by simpa only [Heap.size_push] using dn
  refine ⟨rfl, hq h' tk' (hp.objs.size + 1) dx ⟨fun b o e => k' b o (Nat.ne_of_lt (Nat.lt_succ_of_lt (Heap.lt_size e))) (kp b o e), Nat.le_succ _, ⟨_, hx⟩, by show hp.objs.size ≤ dx; omega, dne, ns⟩⟩
theorem made2 (SF : StoreFacts B bmB "object.__setattr__" "object") (FB : ExcBaseFacts B newId initId bmB) (T : ExT K C bmB newId) (no : findIn K (.ref C) n = some none) (no2 : findIn K (.ref C) n2 = some none) (iC : findIn K (.ref C) "__init__" = some (some (.ref fI))) (tI : typeIn K (.ref fI) = some (.type "function"))
    (F : L2.Fun K "__init__" qual st fI fd) (Sc : L2.FnScope ["self", n, n2] ["self", n, n2] (L2.defScope st)) (bd : L2.Binds K fd ["self", n, n2] [])
    (l1 : (L2.defScope st).names.lookup ("self" : Str) = some .local) (l2 : (L2.defScope st).names.lookup n = some .local) (l3 : (L2.defScope st).names.lookup n2 = some .local)
    (nd : (n == ("__debug__" : Str)) = false) (nd2 : (n2 == ("__debug__" : Str)) = false)
    {q1 q2 q3 q4 q5 q6 q7 q8 : Pos} (hb : L2.defBody st = [.Assign [.Attribute (.Name "self" q1) n q2] (.Name n q3) q4, .Assign [.Attribute (.Name "self" q5) n2 q6] (.Name n2 q7) q8])
    {v v2 : Value} (X : K.In s.heap) (lim : s.heap.NoLimit) (room : A.depth + 1 < recursionLimit)
    (hq : ∀ h' tk e dx, Made s.heap h' e C dx (fun y => if y = n2 then some v2 else if y = n then some v else none) → R (.ok (.ret (.ref e))) { s with heap := h', toks := tk }) :
    codeAny (model prog w) A (.call (.ref C) ⟨[v, v2], []⟩) R s := by
  obtain ⟨nm, N, qn, bs, bm, hdct, sn, sub, ab, col, dd, k0, k1, k2, k3, k5, hC, hT⟩ := excInit_of X T.own
  obtain ⟨hp, g, dr, tk, os⟩ := s
  have kp : ∀ b o, hp.get? b = some o → ((hp.push (kdv_tup [v, v2])).push (HandSPX.excO C hp.objs.size)).get? b = some o := fun b o e => Heap.get?_push_of_some _ (Heap.get?_push_of_some _ e)
  have hnx : K.lookup (hp.objs.size + 1) = none := by
    cases e : K.lookup (hp.objs.size + 1) with
    | none => rfl
    | some o => exact absurd (Heap.lt_size (X _ _ e)) (by show ¬ hp.objs.size + 1 < hp.objs.size; omega)
  refine HandSPX.call_own FB hT hC (looks_findIn X iC) (fun self => bind_fn X self tI) (by show 2 ≤ sizeLine; decide) ?_
  refine init2 (s := ⟨(hp.push (kdv_tup [v, v2])).push (HandSPX.excO C hp.objs.size), g, dr, tk, os⟩) SF T no no2 F Sc bd l1 l2 l3 nd nd2 hb (X.keeps kp) (lim.keeps kp) (by heap_get) hnx (by rw [L2.make_depth]; exact room) ?_
  intro h' tk' dx k' hx dn dne ns
  have z : hp.objs.size + 1 + 1 ≤ dx := by simpa only [Heap.size_push] using dn
  refine ⟨rfl, hq h' tk' (hp.objs.size + 1) dx ⟨fun b o e => k' b o (Nat.ne_of_lt (Nat.lt_succ_of_lt (Heap.lt_size e))) (kp b o e), Nat.le_succ _, ⟨_, hx⟩, by show hp.objs.size ≤ dx; omega, dne, ns⟩⟩
end
end LL
namespace LL
open PySem PySem.Spec PyProof.Rows L2
/-- an error at e, its dict at dx with the fields fs -/
def putE (H : Hp) (e dx C : Addr) (fs : List (Str × V)) : Hp := upd (upd H dx (exd dx fs)) e (exo e C (some dx))
section
variable {X : Cx} {pins : List (Addr × Obj)} {σ : L2.St} {H : Hp}
theorem inv_made {h h' : Heap} {g : Array GenState} {d : Drawn} {t t' : Nat} {os : OsState} {e dx C : Addr} {m : Str → Option Value} {fs : List (Str × V)} (I : Inv X pins σ H ⟨h, g, d, t, os⟩)
    (M : Made h h' e C dx m) (r : ∀ f, RelO (fs.lookup f) (m f)) : Inv X pins σ (putE H e dx C fs) ⟨h', g, d, t', os⟩ ∧ H e = none ∧ H dx = none := by
  have ne : H e = none := I.hok.fresh M.big
  have nd : H dx = none := I.hok.fresh M.dbig
  have old : ∀ {b o}, h.get? b = some o → b ≠ e ∧ b ≠ dx := fun {b o} q =>
    ⟨Nat.ne_of_lt (Nat.lt_of_lt_of_le (Heap.lt_size q) M.big), Nat.ne_of_lt (Nat.lt_of_lt_of_le (Heap.lt_size q) M.dbig)⟩
  have lift : ∀ b o, H b = some o → putE H e dx C fs b = some o := fun b o q => by
    unfold putE
    rw [upd_ne (ne_of_none q ne), upd_ne (ne_of_none q nd)]
    exact q
  have U : Un X.fs [] H (putE H e dx C fs) h h' := {
    keep := fun b o q _ _ _ => M.keep b o q
    slot := fun b o q _ _ _ => ⟨o.slots, M.keep b o q⟩
    free := fun b o q n _ => by unfold putE; rw [upd_ne (old q).1, upd_ne (old q).2]; exact n
    there := fun b o q _ => ⟨o, M.keep b o q⟩
    tups := fun b xs q => lift b _ q
    frzs := fun b o u q => lift b _ q
    tbls := fun b ps q => ⟨#[], by rw [lift b _ q]; simp⟩ }
  refine ⟨I.un (h' := h') (t' := t') U fun b o q => ?_, ne, nd⟩
  by_cases be : b = e
  · subst be
    unfold putE at q
    rw [upd_same] at q
    cases q
    obtain ⟨t1, ho⟩ := M.obj
    exact exo_ok ho
  · by_cases bd : b = dx
    · subst bd
      unfold putE at q
      rw [upd_ne be, upd_same] at q
      cases q
      exact exd_ok M.ns r
    · have q' : H b = some o := by
        unfold putE at q
        rw [upd_ne be, upd_ne bd] at q
        exact q
      exact (I.hok b o q').stay (fun c u _ z => M.keep c u z) (fun c z => lift c _ z) fun c xs z => lift c _ z
end
/-- what is wanted of an error class of one field, of two fields, without __init__ -/
structure Er1 (K : PySem.W.Frag) (mg : Str → Option Value) (x n : Str) (C : Addr) : Prop where
  gC : mg x = some (.ref C)
  no : PySem.W.findIn K (.ref C) n = some none
  kp : PySem.W.keepIn K (.ref C) = true
  run : ∀ {prog : Program} {w : World} {A : Around} {R : Result → Shared → Prop} {s : Shared} {v : Value}, K.In s.heap → s.heap.NoLimit → A.depth + 1 < recursionLimit →
    (∀ h' tk e dx, Made s.heap h' e C dx (fun y => if y = n then some v else none) → R (.ok (.ret (.ref e))) { s with heap := h', toks := tk }) →
    codeAny (model prog w) A (.call (.ref C) ⟨[v], []⟩) R s
structure Er2 (K : PySem.W.Frag) (mg : Str → Option Value) (x n n2 : Str) (C : Addr) : Prop where
  gC : mg x = some (.ref C)
  no : PySem.W.findIn K (.ref C) n = some none
  no2 : PySem.W.findIn K (.ref C) n2 = some none
  kp : PySem.W.keepIn K (.ref C) = true
  run : ∀ {prog : Program} {w : World} {A : Around} {R : Result → Shared → Prop} {s : Shared} {v v2 : Value}, K.In s.heap → s.heap.NoLimit → A.depth + 1 < recursionLimit →
    (∀ h' tk e dx, Made s.heap h' e C dx (fun y => if y = n2 then some v2 else if y = n then some v else none) → R (.ok (.ret (.ref e))) { s with heap := h', toks := tk }) →
    codeAny (model prog w) A (.call (.ref C) ⟨[v, v2], []⟩) R s
structure Er0 (K : PySem.W.Frag) (mg : Str → Option Value) (x : Str) (C : Addr) (newId initId : String) (bmB : List Value) : Prop where
  gC : mg x = some (.ref C)
  kp : PySem.W.keepIn K (.ref C) = true
  own : PySem.W.excInitIn K C bmB newId = true
  ini : PySem.W.findIn K (.ref C) "__init__" = some (some (.builtin initId))
/-- for e.f and isinstance(e, ..) -/
structure ErC (K : PySem.W.Frag) (C : Addr) : Prop where
  hd : PySem.W.hasDictIn K C = true
  ga : PySem.W.findIn K (.ref C) "__getattribute__" = some (some (.builtin "BaseException.__getattribute__"))
  gg : PySem.W.findIn K (.ref C) "__getattr__" = some none
  sub : PySem.W.subIn K (.ref C) (.type "BaseException") = some true
  cl : PySem.W.findIn K (.ref C) "__class__" = some (some (.builtin "object.__class__"))
  mr : PySem.W.mroIn K C (.type "object") = some true
structure ClG (K : PySem.W.Frag) : Prop where
  sp : PySem.W.specialIn K (.builtin "object.__class__") "__get__" = some (some (.builtin "getset_descriptor.__get__"))
  tk : PySem.W.takesIn K (.builtin "object.__class__") = some true
def tMk1 (C : Addr) (n : Str) (ta : TA) : TE := fun σ H Q => ta σ H fun vs H1 => ∃ v, vs = [v] ∧ ∀ e dx, H1 e = none → H1 dx = none → dx ≠ e → Q (.ref e) (putE H1 e dx C [(n, v)])
def tMk2 (C : Addr) (n n2 : Str) (ta : TA) : TE := fun σ H Q => ta σ H fun vs H1 => ∃ v v2, vs = [v, v2] ∧ ∀ e dx, H1 e = none → H1 dx = none → dx ≠ e → Q (.ref e) (putE H1 e dx C [(n2, v2), (n, v)])
def tMk0 (C : Addr) : TE := fun σ H Q => ∀ e, H e = none → Q (.ref e) (upd H e (exo e C none))
section
variable {X : Cx} {C : Addr} {x n n2 : Str} {e : Expr} {es : List Expr} {ta : TA} {p pos : Pos} {k : Nat}
theorem pe_mk1 (T : Er1 X.K X.mg x n C) (hr : Room k X.A) (ha : PA X [e] ta) (hg : Gl X x := by rfl) (hdb : (x == ("__debug__" : Str)) = false := by decide)
    (he : starEach [e] X.env = (false, eval e X.env) :: starEach [] X.env := by rfl) (hpl : (backTo pos (starEach [] X.env)).any (·.1) = false := by rfl) :
    PE X (.Call (.Name x p) [e] [] pos) (tMk1 C n ta) := by
  refine ⟨fun pins s σ H Q I h => wpAny_Call_Name_kw (ld_glob I hg T.gC ?_ hdb)⟩
  refine PySem.W.callWith_K (h₀ := X.base) I.ok.mod.kin T.kp (thn (ha.run pos pins s σ H _ I h) ?_) he hpl
  rintro us s1 ⟨vs, H1, I1, r1, v, rfl, q⟩
  obtain ⟨u, rfl, ru⟩ := vals1 r1
  refine ⟨I1.kIn, wpAny_call (T.run I1.kIn I1.nolimit (by have := hr.dp; omega) ?_)⟩
  intro h' tk a dx M
  obtain ⟨hp, g, d, t, os⟩ := s1
  obtain ⟨J, ne, nd⟩ := inv_made (t' := tk) (fs := [(n, v)]) I1 M (relO_put (fs := []) (mA := fun _ => none) ru fun f => True.intro)
  exact ⟨.ref a, _, J, rfl, q a dx ne nd M.ne⟩
theorem pe_mk2 {e2 : Expr} (T : Er2 X.K X.mg x n n2 C) (hr : Room k X.A) (ha : PA X [e, e2] ta) (hg : Gl X x := by rfl) (hdb : (x == ("__debug__" : Str)) = false := by decide)
    (he : starEach [e, e2] X.env = (false, eval e X.env) :: starEach [e2] X.env := by rfl) (hpl : (backTo pos (starEach [e2] X.env)).any (·.1) = false := by rfl) :
    PE X (.Call (.Name x p) [e, e2] [] pos) (tMk2 C n n2 ta) := by
  refine ⟨fun pins s σ H Q I h => wpAny_Call_Name_kw (ld_glob I hg T.gC ?_ hdb)⟩
  refine PySem.W.callWith_K (h₀ := X.base) I.ok.mod.kin T.kp (thn (ha.run pos pins s σ H _ I h) ?_) he hpl
  rintro us s1 ⟨vs, H1, I1, r1, v, v2, rfl, q⟩
  obtain ⟨u, u2, rfl, ru, ru2⟩ := vals2 r1
  refine ⟨I1.kIn, wpAny_call (T.run I1.kIn I1.nolimit (by have := hr.dp; omega) ?_)⟩
  intro h' tk a dx M
  obtain ⟨hp, g, d, t, os⟩ := s1
  obtain ⟨J, ne, nd⟩ := inv_made (t' := tk) (fs := [(n2, v2), (n, v)]) I1 M (relO_put ru2 (relO_put (fs := []) (mA := fun _ => none) ru fun f => True.intro))
  exact ⟨.ref a, _, J, rfl, q a dx ne nd M.ne⟩
theorem pe_mk0 {B newId initId : String} {bmB : List Value} (FB : ExcBaseFacts B newId initId bmB) (T : Er0 X.K X.mg x C newId initId bmB) (hg : Gl X x := by rfl) (hdb : (x == ("__debug__" : Str)) = false := by decide) :
    PE X (.Call (.Name x p) [] [] pos) (tMk0 C) := by
  refine ⟨fun pins s σ H Q I h => wpAny_Call_Name_kw (ld_glob I hg T.gC ?_ hdb)⟩
  refine PySem.W.callWith_K0 I.kIn T.kp ?_
  obtain ⟨nm, N, qn, bs, bm, hdct, sn, sub, ab, col, dd, k0, k1, k2, k3, k5, hC, hT⟩ := PySem.W.excInit_of I.kIn T.own
  have ini := PySem.W.looks_findIn (M := model X.prog X.w) I.kIn T.ini
  obtain ⟨hp, g, d, t, os⟩ := s
  refine PySem.W.call_B FB hT hC ini (by show 0 ≤ sizeLine; exact Nat.zero_le _) ?_
  intro h' k he ht
  have sz : hp.objs.size ≤ hp.objs.size + 1 := Nat.le_succ _
  exact ⟨.ref (hp.objs.size + 1), upd H (hp.objs.size + 1) (exo (hp.objs.size + 1) C none), I.laid (t' := t) k sz (exo_ok he), rfl, h _ (I.hok.fresh sz)⟩
/-- e.n -/
def tFl (K : PySem.W.Frag) (n : Str) (te : TE) : TE := fun σ H Q => te σ H fun x H1 => ∃ (a C dx : Addr) (fs : List (Str × V)) (v : V), x = .ref a ∧ ErC K C ∧ PySem.W.findIn K (.ref C) n = some none ∧ H1 a = some (exo a C (some dx)) ∧ H1 dx = some (exd dx fs) ∧ fs.lookup n = some v ∧ Q v H1
theorem pe_fl {te : TE} (h : PE X e te) (hb : attributeBase e n X.env (eval e X.env) = eval e X.env := by rfl) : PE X (.Attribute e n pos) (tFl X.K n te) := by
  refine ⟨fun pins s σ H Q I q => attr_of hb (thn (h.run pins s σ H _ I q) ?_)⟩
  rintro u s1 ⟨y, H1, I1, rx, a, C, dx, fs, v, rfl, T, no, ha, hx, l, q⟩
  cases rx
  obtain ⟨t1, ho⟩ := exo_at I1.hok ha
  obtain ⟨mA, hns, hr⟩ := exd_at I1.hok hx
  obtain ⟨od, hod, hl⟩ := lookIn_ns hns
  obtain ⟨u, hu, ru⟩ := RelO.some_of (v := v) (o := mA n) (by rw [← l]; exact hr n)
  exact HandSPX.exc_get I1.kIn ⟨ho, rfl, rfl, hod⟩ T.ga T.gg T.sub (PySem.W.findObj_own T.hd no rfl (by rw [hl, hu])) (handed_of ru) ⟨v, H1, I1.tok _, ru, q⟩
/-- isinstance(e, c) -/
def rIsX (K : PySem.W.Frag) : List V → Hp → VK → Prop := fun xs H Q => ∃ (a C : Addr) (d : Option Addr) (c : V) (cv : Value) (b : Bool), xs = [.ref a, c] ∧ ClsV c cv ∧ ErC K C ∧ H a = some (exo a C d) ∧ (∀ dx, d = some dx → ∃ fs, H dx = some (exd dx fs)) ∧ PySem.W.kitOne K (.ref C) cv = some b ∧ Q (.bl b) H
theorem call_isX (G : ClG X.K) : CallR X (.builtin "isinstance") (rIsX X.K) := by
  intro pins s σ H xs us Q I r h
  obtain ⟨a, C, d, c, cv, b, rfl, kc, T, ha, hdx, e, q⟩ := h
  obtain ⟨u1, u2, rfl, r1, r2⟩ := vals2 r
  cases r1
  have ec := kc.eq r2
  subst ec
  obtain ⟨t1, ho⟩ := exo_at I.hok ha
  obtain ⟨cd, hc, _⟩ := PySem.W.any_some T.hd
  have hcl : (PySem.W.clsIn X.K C).isSome = true := by rw [hc]; rfl
  obtain ⟨od, J⟩ : ∃ od, PySem.W.InstAt s.heap a { cls := .ref C, dict := d, data := .fields #[.ref t1, .none, .none, .none, .bool false, .none] } C od := by
    cases d with
    | none => exact ⟨none, ho, rfl, rfl, trivial⟩
    | some dx =>
      obtain ⟨fs, hx⟩ := hdx dx rfl
      obtain ⟨mA, hns, hr⟩ := exd_at I.hok hx
      obtain ⟨od, hod, hl⟩ := lookIn_ns hns
      exact ⟨some od, ho, rfl, rfl, hod⟩
  exact PySem.W.kia_one (PySem.W.kitx_exc hcl T.ga T.gg T.sub T.cl G.sp G.tk T.mr) I.kIn J e (fun z => nomatch z) fun tk => ⟨.bl b, H, I.tok tk, rfl, q⟩
end
end LL
namespace LL
open PySem PySem.Spec PyProof.Rows L2
section
variable {X : Cx}
/-- // by a number below 2 ^ 9000, below nought too -/
theorem op_fdivZ : OpR X (binaryOp .FloorDiv) (rI (fun _ j => j ≠ 0 ∧ j.natAbs.log2 < 9000) fun i j => .int (i.fdiv j)) := opI fun i j _ _ _ _ _ hc q => floordiv_int hc.1 q (.inl (PyProof.noPylong_of_log2 hc.2))
end
/-! ### kinds of data -/
def tyN : PyData → String
  | .none => "NoneType" | .bool _ => "bool" | .int _ => "int" | .str _ => "str" | .list _ => "list" | .tuple _ => "tuple" | .dict _ => "dict"
theorem Dq.ty {K : PySem.W.Frag} {H : Hp} {v : V} {d : PyData} (h : Dq K H v d) : TyX K H v (.type (tyN d)) := by
  cases h with
  | non => exact .base .non
  | bl b => exact .base (.bl b)
  | int i => exact .base (.int i)
  | str x => exact .base (.str x)
  | lst h r =>
    rcases h with (h | ⟨o, h⟩) | ⟨o, its, n, hk, hc, _⟩
    · exact .base (.lst h)
    · exact .base (.frz h)
    · exact .kList hk hc
  | tup h r =>
    rcases h with (h | ⟨o, h⟩) | ⟨o, its, n, hk, hc, _⟩
    · exact .base (.tup h)
    · exact .fTuple h
    · exact .kTuple hk hc
  | dct h r => exact .base (.dK h)
def isI : PyData → Bool
  | .int _ => true
  | _ => false
def isT : PyData → Bool
  | .tuple _ => true
  | _ => false
def isB : PyData → Bool
  | .bool _ => true
  | _ => false
def isIB : PyData → Bool
  | .int _ => true
  | .bool _ => true
  | _ => false
theorem kit_int : ∀ d : PyData, kitB (tyN d) "int" = some (isIB d)
  | .none => (by decide +kernel : kitB "NoneType" "int" = some false)
  | .bool _ => (by decide +kernel : kitB "bool" "int" = some true)
  | .int _ => (by decide +kernel : kitB "int" "int" = some true)
  | .str _ => (by decide +kernel : kitB "str" "int" = some false)
  | .list _ => (by decide +kernel : kitB "list" "int" = some false)
  | .tuple _ => (by decide +kernel : kitB "tuple" "int" = some false)
  | .dict _ => (by decide +kernel : kitB "dict" "int" = some false)
theorem kit_bool : ∀ d : PyData, kitB (tyN d) "bool" = some (isB d)
  | .none => (by decide +kernel : kitB "NoneType" "bool" = some false)
  | .bool _ => (by decide +kernel : kitB "bool" "bool" = some true)
  | .int _ => (by decide +kernel : kitB "int" "bool" = some false)
  | .str _ => (by decide +kernel : kitB "str" "bool" = some false)
  | .list _ => (by decide +kernel : kitB "list" "bool" = some false)
  | .tuple _ => (by decide +kernel : kitB "tuple" "bool" = some false)
  | .dict _ => (by decide +kernel : kitB "dict" "bool" = some false)
theorem kit_tuple : ∀ d : PyData, kitB (tyN d) "tuple" = some (isT d)
  | .none => (by decide +kernel : kitB "NoneType" "tuple" = some false)
  | .bool _ => (by decide +kernel : kitB "bool" "tuple" = some false)
  | .int _ => (by decide +kernel : kitB "int" "tuple" = some false)
  | .str _ => (by decide +kernel : kitB "str" "tuple" = some false)
  | .list _ => (by decide +kernel : kitB "list" "tuple" = some false)
  | .tuple _ => (by decide +kernel : kitB "tuple" "tuple" = some true)
  | .dict _ => (by decide +kernel : kitB "dict" "tuple" = some false)
/-- isinstance(x, T) of data, x in slot i, T a built-in class -/
def tIsD (K : PySem.W.Frag) (T : String) (i : Nat) : TE := fun σ H Q => ∃ v, σ[i]? = some (some v) ∧ ∃ d b, Dq K H v d ∧ kitB (tyN d) T = some b ∧ Q (.bl b) H
theorem is_dat {X : Cx} {e : Expr} {i : Nat} {x : Str} {T : String} {p p2 pos : Pos} (mi : X.mg "isinstance" = none) (h : PE X e (tVar i)) (mT : X.mg x = none) (bT : bootBuiltins x = some (.type T)) (hgT : Gl X x := by rfl) (hn : x ≠ "__name__" := by decide) (hd : (x == ("__debug__" : Str)) = false := by decide) (hg : Gl X "isinstance" := by rfl)
    (he : starEach [e, .Name x p2] X.env = (false, eval e X.env) :: starEach [.Name x p2] X.env := by rfl) (he2 : starEach [.Name x p2] X.env = (false, eval (.Name x p2) X.env) :: starEach [] X.env := by rfl) (hpl : (backTo pos (starEach [.Name x p2] X.env)).any (·.1) = false := by rfl) :
    PE X (.Call (.Name "isinstance" p) [e, .Name x p2] [] pos) (tIsD X.K T i) :=
  imp (pe_callB (pos := pos) (p := p) call_isi hg mi (by decide +kernel) (pa_cons h (pa_cons (pe_bltn (v := .ty T) hgT mT bT rfl hn hd) pa_nil he2) he) (by decide) (by decide) he hpl)
    fun σ H Q ⟨v, e1, d, b, hd, hb, q⟩ => ⟨v, e1, v, .ty T, _, _, b, rfl, .ty T, hd.ty, kit_ty hb, q⟩
/-! ### raise C(e); the error in its suite; a call by keywords alone -/
section
variable {X : Cx} {C : Addr} {x n : Str} {a : Expr} {ta : TA} {p pos pos2 : Pos} {k : Nat}
def tMkX (C : Addr) (n : Str) (ta : TA) : L2.St → Hp → XK → Prop := fun σ H Q => ta σ H fun vs H1 => ∃ v, vs = [v] ∧ ∀ d, H1 d = none → Q (.ref C) (some d) (upd H1 d (.xd [(n, v)]))
theorem pmk_er1 (T : Er1 X.K X.mg x n C) (rs : Raises X (.ref C)) (hr : Room k X.A) (ha : PA X [a] ta) (hg : Gl X x := by rfl) (hdb : (x == ("__debug__" : Str)) = false := by decide)
    (he : starEach [a] X.env = (false, eval a X.env) :: starEach [] X.env := by rfl) (hpl : (backTo pos (starEach [] X.env)).any (·.1) = false := by rfl) :
    PMk X (.Call (.Name x p) [a] [] pos) (tMkX C n ta) := by
  intro pins s σ H Q I h
  refine wpAny_Call_Name_kw (ld_glob I hg T.gC ?_ hdb)
  refine PySem.W.callWith_K (h₀ := X.base) I.ok.mod.kin T.kp (thn (ha.run pos pins s σ H _ I h) ?_) he hpl
  rintro us s1 ⟨vs, H1, I1, r1, v, rfl, q⟩
  obtain ⟨u, rfl, ru⟩ := vals1 r1
  refine ⟨I1.kIn, wpAny_call (T.run I1.kIn I1.nolimit (by have := hr.dp; omega) ?_)⟩
  intro h' tk e d M
  obtain ⟨hp, g, dr, t, os⟩ := s1
  obtain ⟨t1, ho⟩ := M.obj
  obtain ⟨G, g1, g2⟩ := restrict h' fun b => decide (b ≠ e)
  have gk : ∀ b, b ≠ e → G.get? b = h'.get? b := fun b hb => g1 b (decide_eq_true hb)
  have ge : G.get? e = none := g2 e (by simp)
  have old : ∀ b o, hp.get? b = some o → G.get? b = some o := fun b o z => (gk b (Nat.ne_of_lt (Nat.lt_of_lt_of_le (Heap.lt_size z) M.big))).trans (M.keep b o z)
  have rel : ∀ f, RelO (List.lookup f [(n, v)]) (if f = n then some u else none) := relO_put (fs := []) (mA := fun _ => none) ru fun f => True.intro
  have ob : ObjOk X.prog X.w (upd H1 d (.xd [(n, v)])) G d (.xd [(n, v)]) := ⟨_, M.ns.at (fun o z => (gk d M.ne).trans z), rel⟩
  have J : Inv X pins σ (upd H1 d (.xd [(n, v)])) ⟨G, g, dr, tk, os⟩ := I1.laid (t' := tk) old M.dbig ob
  refine ⟨e, _, _, ⟨G, g, dr, tk, os⟩, _, .ref C, some d, rfl, J, ?_, ge, ho, ⟨rfl, rfl⟩, rfl, rfl, ?_, rfl, I1.bare, rs, q d (I1.hok.fresh M.dbig)⟩
  · intro b o z
    by_cases hb : b = e
    · have z' : G.get? b = some o := z
      rw [hb, ge] at z'
      cases z'
    · exact (gk b hb).symm.trans z
  · rw [upd_ne (Ne.symm M.ne)]
    exact I1.hok.fresh M.big
/-- isinstance(e, c), e the error that the suite holds, its dict at dd -/
def rIsS (K : PySem.W.Frag) (C a : Addr) (cls : Value) (d : Option Addr) : List V → Hp → VK → Prop := fun xs H Q => ∃ (c : V) (cv : Value) (b : Bool) (dd : Addr) (fs : List (Str × V)), xs = [.ref a, c] ∧ cls = .ref C ∧ ClsV c cv ∧ d = some dd ∧ H dd = some (.xd fs) ∧ PySem.W.kitOne K (.ref C) cv = some b ∧ Q (.bl b) H
theorem call_isS {a : Addr} {oe : Obj} {cls : Value} {d : Option Addr} {pn : List (Addr × Obj)} (T : ErC X.K C) (G : ClG X.K) (hz : Zc cls d oe) (hf : ∃ vs, oe.data = .fields vs) : CallR (X.suite a ((a, oe) :: pn)) (.builtin "isinstance") (rIsS X.K C a cls d) := by
  intro pins s σ H xs us Q I r h
  obtain ⟨c, cv, b, dd, fs, rfl, ec, kc, ed, hx, e, q⟩ := h
  subst ec ed
  obtain ⟨u1, u2, rfl, r1, r2⟩ := vals2 r
  cases r1
  have e2 := kc.eq r2
  subst e2
  obtain ⟨hget, _⟩ := I.pin (a, oe) (List.mem_append.mpr (.inl List.mem_cons_self))
  obtain ⟨vs, hv⟩ := hf
  obtain ⟨cd, hc, _⟩ := PySem.W.any_some T.hd
  have hcl : (PySem.W.clsIn X.K C).isSome = true := by rw [hc]; rfl
  obtain ⟨mA, hns, _⟩ := (show ObjOk X.prog X.w H s.heap dd (.xd fs) from I.hok dd _ hx)
  obtain ⟨od, hod, _⟩ := lookIn_ns hns
  have J : PySem.W.InstAt s.heap a oe C (some od) := ⟨hget, hz.1, by unfold PySem.W.notCls; rw [hv] <;> rfl, by rw [hz.2]; exact hod⟩
  exact PySem.W.kia_one (PySem.W.kitx_exc hcl T.ga T.gg T.sub T.cl G.sp G.tk T.mr) I.kIn J e (fun z => nomatch z) fun tk => ⟨.bl b, H, I.kept (t' := tk) fun _ _ z => z, rfl, q⟩
end
section
variable {X : Cx} {CX : CXT} {k : Nat} {f : Addr} {fd : FuncData} {ps ks : List Str} {sp : Sp} {E : L2.St → XK} {x : Str} {p pos : Pos} {kws : List Keyword} {tk : TA}
/-- f(k = e, ..) of what may raise; gV: the values in the parameters' order -/
def tCallKS (sp : Sp) (gV : List V → List V) (E : L2.St → XK) (m : Nat) (tk : TA) : TE := fun σ H Q => tk σ H fun zs H1 => zs.length = m ∧ sp (gV zs) H1 Q (E σ)
theorem pe_callKS {g : List Value → List Value} {gV : List V → List V} (F : FnOk X.prog X.w X.K X.mg X.base CX k f fd ps sp) (hr : Room k X.A) (hg : Gl X x) (hm : X.mg x = some (.ref f)) (hk : PySem.W.keepIn X.K (.ref f) = true)
    (bd : ∀ (s : Shared) (ws : List Value), X.K.In s.heap → ws.length = ks.length → BindsTo s fd ⟨[], ks.zip ws⟩ (ps.zip (g ws))) (rel : ∀ {zs : List V} {ws : List Value}, Vals zs ws → Vals (gV zs) (g ws)) (hx : ∀ σ, PassesAt CX X σ (E σ))
    (hkw : PK X kws tk) (hall : (backToKw pos (keywordEach kws X.env)).all (·.1.isSome) = true := by rfl) (hks : (backToKw pos (keywordEach kws X.env)).filterMap (·.1) = ks := by rfl)
    (hdb : (x == ("__debug__" : Str)) = false := by decide) (hpl : ((backTo pos (starEach [] X.env)).any (·.1) || (backToKw pos (keywordEach kws X.env)).any (·.1.isNone)) = false := by rfl) :
    PE X (.Call (.Name x p) [] kws pos) (tCallKS sp gV E ks.length tk) := by
  refine ⟨fun pins s σ H Q I h => wpAny_Call_Name_kw (ld_glob I hg hm ?_ hdb)⟩
  refine PySem.W.callWith_KW0 (h₀ := X.base) I.ok.mod.kin hk hall (thn (hkw.run pos pins s σ H _ I h) ?_) hpl
  rintro ws s1 ⟨zs, H1, I1, rz, lz, q⟩
  refine ⟨I1.kIn, ?_⟩
  rw [hks]
  have lw : ws.length = ks.length := by rw [← rz.length]; exact lz
  refine wpAny_call (codeAny_mono (F.run X.A X.stack s1 H1 ⟨[], ks.zip ws⟩ (g ws) (gV zs) Q (E σ) hr I1.env0 (bd s1 ws I1.kIn lw) (rel rz) q) ?_)
  intro r s' hq
  match r, hq with
  | .error e, hq => exact hx σ pins H1 s1 e s' I1 hq
  | .ok (.ret u), hq => exact I1.after hq
  | .ok .next, hq => exact False.elim hq
  | .ok .brk, hq => exact False.elim hq
  | .ok .cont, hq => exact False.elim hq
end
end LL
namespace LL
open PySem PySem.W PyProof.Rows
abbrev ndict : Option (Option Value) := some (some (.builtin "object.__setattr__"))
def ercB (K : Frag) (C : Addr) : Bool := hasDictIn K C && (decide (findIn K (.ref C) "__getattribute__" = some (some (.builtin "BaseException.__getattribute__"))) && (decide (findIn K (.ref C) "__getattr__" = some none) && (decide (subIn K (.ref C) (.type "BaseException") = some true) &&
  (decide (findIn K (.ref C) "__class__" = some (some (.builtin "object.__class__"))) && decide (mroIn K C (.type "object") = some true)))))
theorem erc_of {K : Frag} {C : Addr} (h : ercB K C = true) : ErC K C := by
  unfold ercB at h
  simp only [Bool.and_eq_true, decide_eq_true_eq] at h
  obtain ⟨h1, h2, h3, h4, h5, h6⟩ := h
  exact ⟨h1, h2, h3, h4, h5, h6⟩
def extB (K : Frag) (C : Addr) (bmB : List Value) (newId : String) : Bool := excInitIn K C bmB newId && (excOver K C bmB && (decide (findIn K (.ref C) "__setattr__" = ndict) && keepIn K (.ref C)))
theorem ext_of {K : Frag} {C : Addr} {bmB : List Value} {newId : String} (h : extB K C bmB newId = true) (e : ErC K C) : ExT K C bmB newId := by
  unfold extB at h
  simp only [Bool.and_eq_true, decide_eq_true_eq] at h
  obtain ⟨h1, h2, h3, h4⟩ := h
  exact ⟨h1, h2, h3, e.hd, e.ga, e.gg, e.sub, h4⟩
def nonB (K : Frag) (C : Addr) (n : Str) : Bool := decide (findIn K (.ref C) n = some none)
end LL
namespace LL
open PySem PySem.Spec PyProof.Rows L2
theorem er1_mk {K : PySem.W.Frag} {h : Heap} {mg : Str → Option Value} {x n : Str} {C fI : Addr} {B newId initId : String} {bmB : List Value} {qual : Str} {st : Stmt} {oc : Value} {od an : Option Addr} {sl : Array (Option Value)} {kV dc pm cd ct : Value}
    (X : K.In h) (G : h.Ns mainGlobals mg) (SF : StoreFacts B bmB "object.__setattr__" "object") (FB : ExcBaseFacts B newId initId bmB) (e : ErC K C)
    (Sc : FnScope ["self", n] ["self", n] (defScope st)) (l1 : (defScope st).names.lookup ("self" : Str) = some .local) (l2 : (defScope st).names.lookup n = some .local) (nd : (n == ("__debug__" : Str)) = false) {q1 q2 q3 q4 : Pos} (hb : defBody st = [.Assign [.Attribute (.Name "self" q1) n q2] (.Name n q3) q4])
    (bd : ∀ (kV doc pm : Value) (an : Option Addr) (cdv ct : Value) (us : List Value), us.length = (["self", n] : List Str).length → bindArgs (PySem.W.fnOf "__init__" qual (defArgs st) (defBody st) (defScope st) .none kV doc pm an cdv ct) ⟨us, []⟩ = pure ((["self", n] : List Str).zip us))
    (aC : PySem.W.nsIn K mainGlobals x = some (some (.ref C))) (t : extB K C bmB newId = true) (no : PySem.W.findIn K (.ref C) n = some none) (iC : PySem.W.findIn K (.ref C) "__init__" = some (some (.ref fI))) (tI : PySem.W.typeIn K (.ref fI) = some (.type "function"))
    (lI : K.lookup fI = some ⟨oc, od, .func (PySem.W.fnOf "__init__" qual (defArgs st) (defBody st) (defScope st) .none kV dc pm an cd ct), sl⟩) (cI : PySem.W.codeIn K cd qual = true) (kI : PySem.W.keepIn K (.ref fI) = true) : Er1 K mg x n C := by
  have T := ext_of t e
  have F := fun_mk lI cI kI
  exact ⟨PySem.W.mg_of X G aC, no, T.kp, fun X' lim room hq => made1 SF FB T no iC tI F Sc (F.binds bd) l1 l2 nd hb X' lim room hq⟩
end LL
/-! the data layer: what a def does, told over data alone -/
namespace DL
open PySem PySem.Spec PyProof.Rows L2 LL
inductive D where
  | non
  | bl (b : Bool)
  | int (i : Int)
  | str (x : Str)
  | lst (ds : List D)
  | tup (ds : List D)
  | dct (ks : List Key) (ds : List D)
  | obj (C : Addr) (ns : List Str) (ds : List D)
mutual
/-- v is d at H -/
inductive Dr (K : PySem.W.Frag) (H : Hp) : V → D → Prop
  | non : Dr K H .non .non
  | bl (b : Bool) : Dr K H (.bl b) (.bl b)
  | int (i : Int) : Dr K H (.int i) (.int i)
  | str (x : Str) : Dr K H (.str x) (.str x)
  | lst {a : Addr} {xs : List V} {ds : List D} (h : SqL K H a xs) (r : DrA K H xs ds) : Dr K H (.ref a) (.lst ds)
  | tup {a : Addr} {xs : List V} {ds : List D} (h : SqT K H a xs) (r : DrA K H xs ds) : Dr K H (.ref a) (.tup ds)
  | dct {a : Addr} {kvs : List (Key × V)} {ds : List D} (h : H a = some (.dK kvs)) (r : DrA K H (kvs.map (·.2)) ds) : Dr K H (.ref a) (.dct (kvs.map (·.1)) ds)
  | obj {a C dx : Addr} {ns : List Str} {vs : List V} {ds : List D} (h : H a = some (.ins C dx (ns.zip vs))) (hl : ns.length = vs.length) (r : DrA K H vs ds) : Dr K H (.ref a) (.obj C ns ds)
inductive DrA (K : PySem.W.Frag) (H : Hp) : List V → List D → Prop
  | nil : DrA K H [] []
  | cons {v : V} {vs : List V} {d : D} {ds : List D} (h : Dr K H v d) (r : DrA K H vs ds) : DrA K H (v :: vs) (d :: ds)
end
section
variable {K : PySem.W.Frag} {H H' : Hp}
theorem DrA.length : ∀ {vs : List V} {ds : List D}, DrA K H vs ds → vs.length = ds.length
  | _, _, .nil => rfl
  | _, _, .cons _ r => by rw [List.length_cons, List.length_cons, DrA.length r]
theorem DrA.get : ∀ {vs : List V} {ds : List D} {i : Nat} {v : V}, DrA K H vs ds → vs[i]? = some v → ∃ d, ds[i]? = some d ∧ Dr K H v d
  | _, _, 0, _, .cons h _, e => by cases e; exact ⟨_, rfl, h⟩
  | _, _, i + 1, v, .cons _ r, e => DrA.get (i := i) r e
theorem DrA.put : ∀ {vs : List V} {ds : List D} {i : Nat} {d : D}, DrA K H vs ds → ds[i]? = some d → ∃ v, vs[i]? = some v ∧ Dr K H v d
  | _, _, 0, _, .cons h _, e => by cases e; exact ⟨_, rfl, h⟩
  | _, _, i + 1, v, .cons _ r, e => DrA.put (i := i) r e
theorem DrA.append : ∀ {vs ws : List V} {ds es : List D}, DrA K H vs ds → DrA K H ws es → DrA K H (vs ++ ws) (ds ++ es)
  | _, _, _, _, .nil, s => s
  | _, _, _, _, .cons h r, s => .cons h (DrA.append r s)
theorem DrA.set : ∀ {vs : List V} {ds : List D} {i : Nat} {v : V} {d : D}, DrA K H vs ds → Dr K H v d → DrA K H (vs.set i v) (ds.set i d)
  | _, _, _, _, _, .nil, _ => .nil
  | _, _, 0, _, _, .cons h r, q => .cons q r
  | _, _, i + 1, _, _, .cons h r, q => .cons h (DrA.set r q)
theorem DrA.drop : ∀ {vs : List V} {ds : List D} {n : Nat}, DrA K H vs ds → DrA K H (vs.drop n) (ds.drop n)
  | _, _, 0, r => r
  | _, _, n + 1, .nil => .nil
  | _, _, n + 1, .cons h r => DrA.drop (n := n) r
theorem DrA.take : ∀ {vs : List V} {ds : List D} {n : Nat}, DrA K H vs ds → DrA K H (vs.take n) (ds.take n)
  | _, _, 0, r => .nil
  | _, _, n + 1, .nil => .nil
  | _, _, n + 1, .cons h r => .cons h (DrA.take (n := n) r)
theorem DrA.eraseIdx : ∀ {vs : List V} {ds : List D} {n : Nat}, DrA K H vs ds → DrA K H (vs.eraseIdx n) (ds.eraseIdx n)
  | _, _, 0, .nil => .nil
  | _, _, 0, .cons _ r => r
  | _, _, n + 1, .nil => .nil
  | _, _, n + 1, .cons h r => .cons h (DrA.eraseIdx (n := n) r)
theorem DrA.reverse : ∀ {vs : List V} {ds : List D}, DrA K H vs ds → DrA K H vs.reverse ds.reverse
  | _, _, .nil => .nil
  | _, _, .cons h r => by
    rw [List.reverse_cons, List.reverse_cons]
    exact (DrA.reverse r).append (.cons h .nil)
theorem DrA.mem {v : V} : ∀ {vs : List V} {ds : List D}, DrA K H vs ds → v ∈ vs → ∃ d, d ∈ ds ∧ Dr K H v d
  | _, _, .nil, h => by cases h
  | _, _, .cons q r, h => by
    rcases List.mem_cons.mp h with rfl | h
    · exact ⟨_, List.mem_cons_self, q⟩
    · obtain ⟨d, m, z⟩ := DrA.mem r h
      exact ⟨d, List.mem_cons_of_mem _ m, z⟩
mutual
theorem Dr.up (e : Same H H') : ∀ {v : V} {d : D}, Dr K H v d → Dr K H' v d
  | _, _, .non => .non
  | _, _, .bl b => .bl b
  | _, _, .int i => .int i
  | _, _, .str x => .str x
  | _, _, .lst h r => .lst (e.seq h) (DrA.up e r)
  | _, _, .tup h r => .tup (Same.seqT e h) (DrA.up e r)
  | _, _, .dct h r => .dct (e _ _ h) (DrA.up e r)
  | _, _, .obj h l r => .obj (e _ _ h) l (DrA.up e r)
theorem DrA.up (e : Same H H') : ∀ {v : List V} {d : List D}, DrA K H v d → DrA K H' v d
  | _, _, .nil => .nil
  | _, _, .cons h r => .cons (Dr.up e h) (DrA.up e r)
end
/-! ### plain data -/
mutual
def D.py : D → PyData
  | .non => .none
  | .bl b => .bool b
  | .int i => .int i
  | .str x => .str x
  | .lst ds => .list (D.pys ds)
  | .tup ds => .tuple (D.pys ds)
  | .dct ks ds => .dict ((ks.map kD).zip (D.pys ds))
  | .obj _ _ _ => .none
def D.pys : List D → List PyData
  | [] => []
  | d :: ds => d.py :: D.pys ds
end
mutual
def D.plain : D → Bool
  | .lst ds => D.plains ds
  | .tup ds => D.plains ds
  | .dct _ ds => D.plains ds
  | .obj _ _ _ => false
  | _ => true
def D.plains : List D → Bool
  | [] => true
  | d :: ds => d.plain && D.plains ds
end
mutual
theorem Dr.q : ∀ {v : V} {d : D}, Dr K H v d → d.plain = true → Dq K H v d.py
  | _, _, .non, _ => .non
  | _, _, .bl b, _ => .bl b
  | _, _, .int i, _ => .int i
  | _, _, .str x, _ => .str x
  | _, _, .lst h r, p => .lst h (DrA.q r p)
  | _, _, .tup h r, p => .tup h (DrA.q r p)
  | _, _, .dct (kvs := kvs) h r, p => by
    have z := Dq.dct h (DrA.q r p)
    have e : (kvs.map fun p => kD p.1) = (kvs.map (·.1)).map kD := by rw [List.map_map]; rfl
    rw [e] at z
    exact z
theorem DrA.q : ∀ {v : List V} {d : List D}, DrA K H v d → D.plains d = true → DqAll K H v (D.pys d)
  | _, _, .nil, _ => .nil
  | _, _, .cons h r, p => by
    have z := Bool.and_eq_true_iff.mp p
    exact .cons (Dr.q h z.1) (DrA.q r z.2)
end
end
/-! ### what is hidden -/
def hid (os : List Addr) (H : Hp) : Hp := fun c => if c ∈ os then none else H c
section
variable {os os' : List Addr} {H H' : Hp} {c p a : Addr} {o : HO}
theorem hid_at (h : H c = some o) (n : c ∉ os) : hid os H c = some o := by unfold hid; rw [if_neg n]; exact h
theorem hid_of (h : hid os H c = some o) : H c = some o ∧ c ∉ os := by
  unfold hid at h
  by_cases n : c ∈ os
  · rw [if_pos n] at h; cases h
  · rw [if_neg n] at h; exact ⟨h, n⟩
theorem hid_same : Same (hid os H) H := fun c o e => (hid_of e).1
theorem hid_sub (h : ∀ a ∈ os, a ∈ os') : Same (hid os' H) (hid os H) := fun c o e => hid_at (hid_of e).1 fun z => (hid_of e).2 (h c z)
theorem hid_up (s : Same H H') : Same (hid os H) (hid os H') := fun c o e => hid_at (s _ _ (hid_of e).1) (hid_of e).2
theorem hid_new (n : H p = none) : Same (hid os H) (hid (p :: os) (upd H p o)) := fun c u e => by
  obtain ⟨e1, e2⟩ := hid_of e
  have ne : c ≠ p := fun z => by rw [z, n] at e1; cases e1
  exact hid_at (by rw [upd_ne ne]; exact e1) fun z => by
    rcases List.mem_cons.mp z with z | z
    · exact ne z
    · exact e2 z
theorem hid_upd (m : a ∈ os) : hid os (upd H a o) = hid os H := by
  funext c
  unfold hid
  by_cases n : c ∈ os
  · rw [if_pos n, if_pos n]
  · rw [if_neg n, if_neg n, upd_ne fun z => n (by rw [z]; exact m)]
end
/-! ### slots -/
def BagO (o : HO) : Prop := ∃ g m c : Int, o = .lst [.int g, .int m, .int c] ∧ 0 ≤ g ∧ 0 ≤ m ∧ m < 2305843009213693952
def BagAt (H : Hp) (b : Addr) : Prop := ∃ o, H b = some o ∧ BagO o
inductive Sl where
  | no
  | dat (d : D)
  | own (a : Addr) (ds : List D)
  | bag (a : Addr)
  | any
  | exc (a dd : Addr) (ns : List Str) (ds : List D)
def Sl.ad : Sl → Option Addr
  | .own a _ => some a
  | .bag a => some a
  | _ => none
abbrev Ev := List Sl
def adAt (env : Ev) (i : Nat) : Option Addr := env[i]?.bind Sl.ad
def SlR (K : PySem.W.Frag) (os : List Addr) (H : Hp) : Sl → Option V → Prop
  | .no, x => x = none
  | .dat d, x => ∃ v, x = some v ∧ Dr K (hid os H) v d
  | .own a ds, x => x = some (.ref a) ∧ ∃ vs, H a = some (.lst vs) ∧ DrA K (hid os H) vs ds
  | .bag a, x => x = some (.ref a) ∧ BagAt H a
  | .any, _ => True
  | .exc a dd ns ds, x => x = some (.ref a) ∧ ∃ vs, hid os H dd = some (.xd (ns.zip vs)) ∧ ns.length = vs.length ∧ DrA K (hid os H) vs ds
/-- what a def was called with: the heap, what may change of it, what its callers hide -/
structure Fm where
  H0 : Hp
  B : List Addr
  os0 : List Addr
structure R (K : PySem.W.Frag) (F : Fm) (os : List Addr) (H : Hp) (σ : L2.St) (env : Ev) : Prop where
  len : env.length = σ.length
  sl : ∀ (i : Nat) (s : Sl), env[i]? = some s → ∃ x : Option V, σ[i]? = some x ∧ SlR K os H s x
  nd : ∀ i j a, adAt env i = some a → adAt env j = some a → i = j
  mem : ∀ i a, adAt env i = some a → a ∈ os
  keep : ∀ c o, c ∉ F.B → F.H0 c = some o → H c = some o
  new : ∀ i a, adAt env i = some a → a ∈ F.B ∨ F.H0 a = none
  sub : ∀ a ∈ F.os0, a ∈ os
  here : ∀ a ∈ os, H a ≠ none
  hB : ∀ b ∈ F.B, b ∈ F.os0
  osn : ∀ a ∈ os, a ∈ F.os0 ∨ F.H0 a = none
/-- how an expression may change what stands -/
structure Go (K : PySem.W.Frag) (F : Fm) (σ : L2.St) (os : List Addr) (H : Hp) (env : Ev) (os' : List Addr) (H' : Hp) (env' : Ev) : Prop where
  r : R K F os' H' σ env'
  ad : ∀ i, adAt env' i = adAt env i
  but : ∀ c o, (∀ i, adAt env i ≠ some c) → H c = some o → H' c = some o
  fresh : ∀ c ∈ os', c ∈ os ∨ H c = none
  sub : ∀ c ∈ os, c ∈ os'
section
variable {K : PySem.W.Frag} {F : Fm} {σ : L2.St} {os os' os'' : List Addr} {H H' H'' : Hp} {env env' env'' : Ev}
theorem Go.refl (r : R K F os H σ env) : Go K F σ os H env os H env := ⟨r, fun _ => rfl, fun _ _ _ e => e, fun _ h => .inl h, fun _ h => h⟩
theorem Go.hs (r : R K F os H σ env) (g : Go K F σ os H env os' H' env') : Same (hid os H) (hid os' H') := fun c o e => by
  obtain ⟨e1, e2⟩ := hid_of e
  refine hid_at (g.but c o (fun i z => e2 (r.mem i c z)) e1) fun z => ?_
  rcases g.fresh c z with z | z
  · exact e2 z
  · rw [z] at e1; cases e1
theorem Go.trans (r : R K F os H σ env) (g : Go K F σ os H env os' H' env') (g' : Go K F σ os' H' env' os'' H'' env'') : Go K F σ os H env os'' H'' env'' := by
  refine ⟨g'.r, fun i => (g'.ad i).trans (g.ad i), fun c o n e => g'.but c o (fun i => by rw [g.ad i]; exact n i) (g.but c o n e), fun c h => ?_, fun c h => g'.sub c (g.sub c h)⟩
  rcases g'.fresh c h with z | z
  · exact g.fresh c z
  · by_cases q : H c = none
    · exact .inr q
    · cases e : H c with
      | none => exact absurd e q
      | some o =>
        by_cases n : ∃ i, adAt env i = some c
        · obtain ⟨i, n⟩ := n
          exact .inl (r.mem i c n)
        · have := g.but c o (fun i z => n ⟨i, z⟩) e
          rw [z] at this
          cases this
theorem R.new0 (r : R K F os H σ env) {p : Addr} (np : H p = none) : F.H0 p = none := by
  cases e : F.H0 p with
  | none => rfl
  | some o =>
    by_cases m : p ∈ F.B
    · exact absurd np (r.here p (r.sub p (r.hB p m)))
    · rw [r.keep p o m e] at np
      cases np
theorem R.off (r : R K F os H σ env) {p : Addr} (np : H p = none) : p ∉ os := fun m => r.here p m np
/-- what was there at the start, and was not hidden -/
theorem R.base (r : R K F os H σ env) : Same (DL.hid F.os0 F.H0) (DL.hid os H) := fun c o e => by
  obtain ⟨e1, e2⟩ := hid_of e
  refine hid_at (r.keep c o (fun z => e2 (r.hB c z)) e1) fun z => ?_
  rcases r.osn c z with w | w
  · exact e2 w
  · rw [w] at e1; cases e1
/-- a heap that only grew, the new not hidden -/
theorem R.same (r : R K F os H σ env) (s : Same H H') : R K F os H' σ env := by
  refine ⟨r.len, fun i t e => ?_, r.nd, r.mem, fun c o n e => s _ _ (r.keep c o n e), r.new, r.sub, fun a h z => r.here a h (s.free z), r.hB, r.osn⟩
  obtain ⟨x, e1, q⟩ := r.sl i t e
  refine ⟨x, e1, ?_⟩
  cases t with
  | no => exact q
  | dat d => obtain ⟨v, e2, q⟩ := q; exact ⟨v, e2, q.up (hid_up s)⟩
  | exc a dd ns ds => obtain ⟨e2, vs, e3, l3, q⟩ := q; exact ⟨e2, vs, (hid_up s) _ _ e3, l3, q.up (hid_up s)⟩
  | own a ds => obtain ⟨e2, vs, e3, q⟩ := q; exact ⟨e2, vs, s _ _ e3, q.up (hid_up s)⟩
  | bag a => obtain ⟨e2, o, e3, q⟩ := q; exact ⟨e2, o, s _ _ e3, q⟩
  | any => trivial
theorem Go.same (r : R K F os H σ env) (s : Same H H') : Go K F σ os H env os H' env := ⟨r.same s, fun _ => rfl, fun c o _ e => s _ _ e, fun _ h => .inl h, fun _ h => h⟩
/-- a new object, hidden -/
theorem R.hide (r : R K F os H σ env) {p : Addr} {o : HO} (n : H p = none) : R K F (p :: os) (upd H p o) σ env := by
  refine ⟨r.len, fun i t e => ?_, r.nd, fun i a e => List.mem_cons_of_mem _ (r.mem i a e), fun c u m e => same_new n _ _ (r.keep c u m e), r.new, fun a h => List.mem_cons_of_mem _ (r.sub a h), fun a h => ?_, r.hB, fun a h => ?_⟩
  · obtain ⟨x, e1, q⟩ := r.sl i t e
    refine ⟨x, e1, ?_⟩
    cases t with
    | no => exact q
    | dat d => obtain ⟨v, e2, q⟩ := q; exact ⟨v, e2, q.up (hid_new n)⟩
    | exc a dd ns ds => obtain ⟨e2, vs, e3, l3, q⟩ := q; exact ⟨e2, vs, (hid_new n) _ _ e3, l3, q.up (hid_new n)⟩
    | own a ds => obtain ⟨e2, vs, e3, q⟩ := q; exact ⟨e2, vs, same_new n _ _ e3, q.up (hid_new n)⟩
    | bag a => obtain ⟨e2, w, e3, q⟩ := q; exact ⟨e2, w, same_new n _ _ e3, q⟩
    | any => trivial
  · rcases List.mem_cons.mp h with rfl | h
    · rw [upd_same]; simp
    · intro z
      exact r.here a h ((same_new (o := o) n).free z)
  · rcases List.mem_cons.mp h with rfl | h
    · exact .inr (r.new0 n)
    · exact r.osn a h
theorem Go.hide (r : R K F os H σ env) {p : Addr} {o : HO} (n : H p = none) : Go K F σ os H env (p :: os) (upd H p o) env :=
  ⟨r.hide n, fun _ => rfl, fun c u _ e => same_new n _ _ e, fun c h => by
    rcases List.mem_cons.mp h with rfl | h
    · exact .inr n
    · exact .inl h, fun c h => List.mem_cons_of_mem _ h⟩
/-- less is hidden -/
theorem R.less (r : R K F os H σ env) (h : ∀ a ∈ os', a ∈ os) (m : ∀ i a, adAt env i = some a → a ∈ os') (s : ∀ a ∈ F.os0, a ∈ os') : R K F os' H σ env := by
  refine ⟨r.len, fun i t e => ?_, r.nd, m, r.keep, r.new, s, fun a q => r.here a (h a q), r.hB, fun a q => r.osn a (h a q)⟩
  obtain ⟨x, e1, q⟩ := r.sl i t e
  refine ⟨x, e1, ?_⟩
  cases t with
  | no => exact q
  | dat d => obtain ⟨v, e2, q⟩ := q; exact ⟨v, e2, q.up (hid_sub h)⟩
  | exc a dd ns ds => obtain ⟨e2, vs, e3, l3, q⟩ := q; exact ⟨e2, vs, (hid_sub h) _ _ e3, l3, q.up (hid_sub h)⟩
  | own a ds => obtain ⟨e2, vs, e3, q⟩ := q; exact ⟨e2, vs, e3, q.up (hid_sub h)⟩
  | bag a => exact q
  | any => trivial
end
end DL
namespace DL
open PySem PySem.Spec PyProof.Rows L2 LL
/-! ### values on hand -/
inductive Rv where
  | dat (d : D)
  | own (a : Addr) (ds : List D)
  | new (ds : List D)
def Hd (K : PySem.W.Frag) (F : Fm) (env : Ev) (os : List Addr) (H : Hp) (v : V) : Rv → Prop
  | .dat d => Dr K (hid os H) v d
  | .own a ds => v = .ref a ∧ ∃ i : Nat, env[i]? = some (.own a ds)
  | .new ds => ∃ p vs, v = .ref p ∧ p ∈ os ∧ (∀ i, adAt env i ≠ some p) ∧ F.H0 p = none ∧ p ∉ F.os0 ∧ H p = some (.lst vs) ∧ DrA K (hid os H) vs ds
def NewOf (os : List Addr) (v : V) : Rv → Prop
  | .new _ => ∀ p, v = .ref p → p ∉ os
  | _ => True
def Rv.rel : Rv → (D → Prop) → Prop
  | .dat d, k => k d
  | .new ds, k => k (.lst ds)
  | .own _ _, _ => False
/-- read, not kept -/
def Rv.rd : Rv → (D → Prop) → Prop
  | .dat d, k => k d
  | .new ds, k => k (.lst ds)
  | .own _ ds, k => k (.lst ds)
def Rv.seq : Rv → (Bool → List D → Prop) → Prop
  | .dat (.lst ds), k => k false ds
  | .dat (.tup ds), k => k true ds
  | .new ds, k => k false ds
  | .own _ ds, k => k false ds
  | _, _ => False
def still : Rv → Ev → Ev → Prop
  | .own _ _, e1, e2 => e2 = e1
  | _, _, _ => True
abbrev DTV := Ev → (Rv → Ev → Prop) → Prop
abbrev DTE := Ev → (D → Ev → Prop) → Prop
abbrev DTA := Ev → (List D → Ev → Prop) → Prop
abbrev DTT := Ev → (Bool → Ev → Prop) → Prop
structure DEnds where
  nx : Ev → Prop
  rt : Rv → Ev → Prop
  bk : Ev → Prop
  ct : Ev → Prop
abbrev DTS := DEnds → Ev → Prop
def upV (K : PySem.W.Frag) (F : Fm) (t : DTV) : TE := fun σ H Q => ∃ env os, R K F os H σ env ∧ ∃ Q', t env Q' ∧ ∀ rv env', Q' rv env' → ∀ v os' H', Go K F σ os H env os' H' env' → Hd K F env' os' H' v rv → NewOf os v rv → Q v H'
def upE (K : PySem.W.Frag) (F : Fm) (t : DTE) : TE := fun σ H Q => ∃ env os, R K F os H σ env ∧ ∃ Q', t env Q' ∧ ∀ d env', Q' d env' → ∀ v os' H', Go K F σ os H env os' H' env' → Dr K (hid os' H') v d → Q v H'
def upA (K : PySem.W.Frag) (F : Fm) (t : DTA) : TA := fun σ H Q => ∃ env os, R K F os H σ env ∧ ∃ Q', t env Q' ∧ ∀ ds env', Q' ds env' → ∀ vs os' H', Go K F σ os H env os' H' env' → DrA K (hid os' H') vs ds → Q vs H'
def upT (K : PySem.W.Frag) (F : Fm) (t : DTT) : TT := fun σ H Q => ∃ env os, R K F os H σ env ∧ ∃ Q', t env Q' ∧ ∀ b env', Q' b env' → ∀ os' H', Go K F σ os H env os' H' env' → Q b H'
structure EndsR (K : PySem.W.Frag) (F : Fm) (D' : DEnds) (D : Ends) : Prop where
  nx : ∀ env', D'.nx env' → ∀ os' σ' H', R K F os' H' σ' env' → D.nx σ' H'
  rt : ∀ rv env', D'.rt rv env' → ∀ v os' σ' H', R K F os' H' σ' env' → Hd K F env' os' H' v rv → D.rt v H'
  bk : ∀ env', D'.bk env' → ∀ os' σ' H', R K F os' H' σ' env' → D.bk σ' H'
  ct : ∀ env', D'.ct env' → ∀ os' σ' H', R K F os' H' σ' env' → D.ct σ' H'
def upS (K : PySem.W.Frag) (F : Fm) (t : DTS) : TS := fun D σ H => ∃ env os, R K F os H σ env ∧ ∃ D' : DEnds, t D' env ∧ EndsR K F D' D
abbrev DV (X : Cx) (F : Fm) (e : Expr) (t : DTV) : Prop := PE X e (upV X.K F t)
abbrev DE (X : Cx) (F : Fm) (e : Expr) (t : DTE) : Prop := PE X e (upE X.K F t)
abbrev DA (X : Cx) (F : Fm) (es : List Expr) (t : DTA) : Prop := PA X es (upA X.K F t)
abbrev DT (X : Cx) (F : Fm) (e : Expr) (t : DTT) : Prop := PT X e (upT X.K F t)
abbrev DS (X : Cx) (F : Fm) (s : Stmt) (t : DTS) : Prop := PS X s (upS X.K F t)
abbrev DSs (X : Cx) (F : Fm) (s : List Stmt) (t : DTS) : Prop := PSs X s (upS X.K F t)
section
variable {K : PySem.W.Frag} {F : Fm} {σ : L2.St} {os os' os'' : List Addr} {H H' H'' : Hp} {env env' env'' : Ev} {v : V} {rv : Rv}
theorem Hd.go (h : Hd K F env os H v rv) (r : R K F os H σ env) (g : Go K F σ os H env os' H' env') (s : still rv env env') : Hd K F env' os' H' v rv := by
  cases rv with
  | dat d => exact h.up (g.hs r)
  | own a ds => cases s; exact h
  | new ds =>
    obtain ⟨p, vs, e, m, n, z, o, hp, q⟩ := h
    exact ⟨p, vs, e, g.sub p m, fun i => by rw [g.ad i]; exact n i, z, o, g.but p _ n hp, q.up (g.hs r)⟩
/-- an own list gives its reading -/
theorem Hd.seq (r : R K F os H σ env) (h : Hd K F env os H v rv) {k : Bool → List D → Prop} (q : rv.seq k) : ∃ a vs ds b, v = .ref a ∧ (b = false → SqL K H a vs) ∧ (b = true → SqT K H a vs) ∧ DrA K (hid os H) vs ds ∧ k b ds := by
  cases rv with
  | dat d =>
    cases d with
    | lst ds =>
      cases h with
      | lst h1 h2 => exact ⟨_, _, ds, false, rfl, fun _ => hid_same.seq h1, (fun z => nomatch z), h2, q⟩
    | tup ds =>
      cases h with
      | tup h1 h2 => exact ⟨_, _, ds, true, rfl, (fun z => nomatch z), fun _ => Same.seqT hid_same h1, h2, q⟩
    | _ => exact q.elim
  | own a ds =>
    obtain ⟨rfl, i, e⟩ := h
    obtain ⟨x, e1, e2, vs, e3, e4⟩ := r.sl i _ e
    exact ⟨a, vs, ds, false, rfl, fun _ => .inl (.inl e3), (fun z => nomatch z), e4, q⟩
  | new ds =>
    obtain ⟨p, vs, rfl, m, n, z, o, hp, w⟩ := h
    exact ⟨p, vs, ds, false, rfl, fun _ => .inl (.inl hp), (fun z => nomatch z), w, q⟩
/-- read with less hidden -/
theorem Hd.rd (r : R K F os H σ env) (h : Hd K F env os H v rv) {k : D → Prop} (q : rv.rd k) : ∃ d, Dr K H v d ∧ k d := by
  cases rv with
  | dat d => exact ⟨d, h.up hid_same, q⟩
  | own a ds =>
    obtain ⟨rfl, i, e⟩ := h
    obtain ⟨x, e1, e2, vs, e3, e4⟩ := r.sl i _ e
    exact ⟨_, .lst (.inl (.inl e3)) (e4.up hid_same), q⟩
  | new ds =>
    obtain ⟨p, vs, rfl, m, n, z, o, hp, w⟩ := h
    exact ⟨_, .lst (.inl (.inl hp)) (w.up hid_same), q⟩
/-- given away -/
theorem Go.rel (r : R K F os H σ env) (g : Go K F σ os H env os' H' env') (h : Hd K F env' os' H' v rv) (n : NewOf os v rv) {k : D → Prop} (q : rv.rel k) : ∃ d os2, k d ∧ Go K F σ os H env os2 H' env' ∧ Dr K (hid os2 H') v d := by
  cases rv with
  | dat d => exact ⟨d, os', q, g, h⟩
  | own a ds => exact q.elim
  | new ds =>
    obtain ⟨p, vs, rfl, m, ns, z, o, hp, w⟩ := h
    have np := n p rfl
    have le : ∀ a ∈ os'.filter (fun a => decide (a ≠ p)), a ∈ os' := fun a ha => (List.mem_filter.mp ha).1
    have ge : ∀ a ∈ os', a ≠ p → a ∈ os'.filter (fun a => decide (a ≠ p)) := fun a ha hn => List.mem_filter.mpr ⟨ha, decide_eq_true hn⟩
    have np2 : p ∉ os'.filter (fun a => decide (a ≠ p)) := fun z => by simpa using (List.mem_filter.mp z).2
    refine ⟨.lst ds, os'.filter (fun a => decide (a ≠ p)), q, ⟨g.r.less le (fun i a e => ge a (g.r.mem i a e) fun z => ns i (by rw [← z]; exact e)) (fun a ha => ge a (g.r.sub a ha) fun z => o (by rw [← z]; exact ha)), g.ad, g.but, fun c hc => g.fresh c (le c hc), fun c hc => ge c (g.sub c hc) fun z => np (by rw [← z]; exact hc)⟩, ?_⟩
    exact .lst (.inl (.inl (hid_at hp np2))) (w.up (hid_sub le))
end
section
variable {X : Cx} {F : Fm} {e a b c : Expr} {es : List Expr} {pos : Pos}
/-! ### names, constants -/
def dVar (i : Nat) : DTV := fun env Q => match env[i]? with
  | some (.dat d) => Q (.dat d) env
  | some (.own a ds) => Q (.own a ds) env
  | _ => False
theorem dv_var {i : Nat} (h : PE X e (tVar i)) : DV X F e (dVar i) := imp h fun σ H Q ⟨env, os, r, Q', q, f⟩ => by
  unfold dVar at q
  cases hs : env[i]? with
  | none => rw [hs] at q; exact q.elim
  | some s =>
    rw [hs] at q
    obtain ⟨x, e1, e2⟩ := r.sl i s hs
    cases s with
    | dat d => obtain ⟨v, rfl, e3⟩ := e2; exact ⟨v, e1, f _ _ q v os H (Go.refl r) e3 trivial⟩
    | own a ds => obtain ⟨rfl, e3⟩ := e2; exact ⟨_, e1, f _ _ q _ os H (Go.refl r) ⟨rfl, i, hs⟩ trivial⟩
    | _ => exact q.elim
def dC (d : D) : DTE := fun env Q => Q d env
theorem de_c {v : V} {d : D} (h : PE X e (tC v)) (q : ∀ H, Dr X.K H v d) : DE X F e (dC d) := imp h fun σ H Q ⟨env, os, r, Q', z, f⟩ => f _ _ z v os H (Go.refl r) (q _)
theorem de_non {j : Nat} : DE X F (.Constant .none j pos) (dC .non) := de_c pe_non fun _ => .non
theorem de_bl {x : Bool} {j : Nat} : DE X F (.Constant (.bool x) j pos) (dC (.bl x)) := de_c pe_bl fun _ => .bl x
theorem de_int {x : Int} {j : Nat} : DE X F (.Constant (.int x) j pos) (dC (.int x)) := de_c pe_int fun _ => .int x
theorem de_str {x : Str} {j : Nat} : DE X F (.Constant (.str x) j pos) (dC (.str x)) := de_c pe_str fun _ => .str x
/-! ### from one to the other -/
def dDat (t : DTE) : DTV := fun env Q => t env fun d e1 => Q (.dat d) e1
theorem dv_of {t : DTE} (h : DE X F e t) : DV X F e (dDat t) := imp h fun σ H Q ⟨env, os, r, Q', z, f⟩ => ⟨env, os, r, _, z, fun d env' q v os' H' g hd => f _ _ q v os' H' g hd trivial⟩
def dRel (t : DTV) : DTE := fun env Q => t env fun rv e1 => rv.rel fun d => Q d e1
theorem de_of {t : DTV} (h : DV X F e t) : DE X F e (dRel t) := imp h fun σ H Q ⟨env, os, r, Q', z, f⟩ => ⟨env, os, r, _, z, fun rv env' q v os' H' g hd n => by
  obtain ⟨d, os2, k, g2, w⟩ := g.rel r hd n q
  exact f _ _ k v os2 H' g2 w⟩
/-! ### arguments -/
def dNil : DTA := fun env Q => Q [] env
def dCons (t : DTE) (u : DTA) : DTA := fun env Q => t env fun d e1 => u e1 fun ds e2 => Q (d :: ds) e2
theorem da_nil : DA X F [] dNil := impA pa_nil fun σ H Q ⟨env, os, r, Q', z, f⟩ => f _ _ z [] os H (Go.refl r) .nil
theorem da_cons {t : DTE} {u : DTA} (h : DE X F e t) (g : DA X F es u) (hs : starEach (e :: es) X.env = (false, eval e X.env) :: starEach es X.env := by rfl) : DA X F (e :: es) (dCons t u) :=
  impA (pa_cons h g hs) fun σ H Q ⟨env, os, r, Q', z, f⟩ => ⟨env, os, r, _, z, fun d e1 q v os1 H1 g1 h1 => ⟨e1, os1, g1.r, _, q, fun ds e2 q2 vs os2 H2 g2 h2 =>
    f _ _ q2 (v :: vs) os2 H2 (g1.trans r g2) (.cons (h1.up (g2.hs g1.r)) h2)⟩⟩
/-! ### operators -/
def dOp (o : Rv → Rv → (Rv → Prop) → Prop) (ta tb : DTV) : DTV := fun env Q => ta env fun ra e1 => tb e1 fun rb e2 => still ra e1 e2 ∧ o ra rb fun rv => Q rv e2
def Lift2 (K : PySem.W.Frag) (r : R2) (o : Rv → Rv → (Rv → Prop) → Prop) : Prop := ∀ (F : Fm) (os : List Addr) (env : Ev) (σ : L2.St) (H : Hp) (v w : V) (ra rb : Rv) (Q : VK) (k : Rv → Prop), R K F os H σ env → Hd K F env os H v ra → Hd K F env os H w rb → o ra rb k →
  (∀ rv u os' H', k rv → Go K F σ os H env os' H' env → Hd K F env os' H' u rv → NewOf os u rv → Q u H') → r v w H Q
theorem NewOf.back {K : PySem.W.Frag} {F : Fm} {σ : L2.St} {os os' : List Addr} {H H' : Hp} {env env' : Ev} {v : V} {rv : Rv} (g : Go K F σ os H env os' H' env') (n : NewOf os' v rv) : NewOf os v rv := by
  cases rv with
  | new ds => exact fun p e z => n p e (g.sub p z)
  | _ => trivial
theorem op_run {K : PySem.W.Frag} {r : R2} {o : Rv → Rv → (Rv → Prop) → Prop} (l : Lift2 K r o) {ta tb : DTV} {σ : L2.St} {H : Hp} {Q : VK} (h : upV K F (dOp o ta tb) σ H Q) : tOp r (upV K F ta) (upV K F tb) σ H Q := by
  obtain ⟨env, os, r0, Q', z, f⟩ := h
  exact ⟨env, os, r0, _, z, fun ra e1 q v os1 H1 g1 h1 n1 => ⟨e1, os1, g1.r, _, q, fun rb e2 ⟨st, q2⟩ w os2 H2 g2 h2 n2 =>
    l F os2 e2 σ H2 v w ra rb Q _ g2.r (h1.go g1.r g2 st) h2 q2 fun rv u os3 H3 q3 g3 h3 n3 => f _ _ q3 u os3 H3 (((g1.trans r0 g2)).trans r0 g3) h3 (NewOf.back (g1.trans r0 g2) n3)⟩⟩
theorem dv_op {op : Operator} {r : R2} {o : Rv → Rv → (Rv → Prop) → Prop} {ta tb : DTV} (ho : OpR X (binaryOp op) r) (l : Lift2 X.K r o) (ha : DV X F a ta) (hb : DV X F b tb) : DV X F (.BinOp a op b pos) (dOp o ta tb) := imp (pe_op ho ha hb) fun σ H Q h => op_run l h
theorem dv_cmp {op : CmpOp} {r : R2} {o : Rv → Rv → (Rv → Prop) → Prop} {ta tb : DTV} (ho : OpR X (compareOp op) r) (l : Lift2 X.K r o) (ha : DV X F a ta) (hb : DV X F b tb) (hm : behindInMarks op b = false := by rfl) : DV X F (.Compare a [op] [b] pos) (dOp o ta tb) := imp (pe_cmpR ho ha hb hm) fun σ H Q h => op_run l h
theorem dv_ix {r : R2} {o : Rv → Rv → (Rv → Prop) → Prop} {ta tb : DTV} (ho : IxR X r) (l : Lift2 X.K r o) (ha : DV X F a ta) (hb : DV X F b tb) (hs : PlainIx b := by exact fun _ _ => rfl) : DV X F (.Subscript a b pos) (dOp o ta tb) := imp (pe_ix ho ha hb hs) fun σ H Q h => op_run l h
def Rv.bool : Rv → (Bool → Prop) → Prop
  | .dat (.bl b), k => k b
  | _, _ => False
theorem Hd.bool {K : PySem.W.Frag} {F : Fm} {os : List Addr} {H : Hp} {env : Ev} {v : V} {rv : Rv} (h : Hd K F env os H v rv) {k : Bool → Prop} (q : rv.bool k) : ∃ b, v = .bl b ∧ k b := by
  cases rv with
  | dat d =>
    cases d with
    | bl b => cases h; exact ⟨b, rfl, q⟩
    | _ => exact q.elim
  | _ => exact q.elim
def dTst (t : DTV) : DTT := fun env Q => t env fun rv e1 => rv.bool fun b => Q b e1
theorem dt_cmp {op : CmpOp} {r : R2} {o : Rv → Rv → (Rv → Prop) → Prop} {ta tb : DTV} (ho : OpR X (compareOp op) r) (l : Lift2 X.K r o) (ha : DV X F a ta) (hb : DV X F b tb) (hm : behindInMarks op b = false := by rfl) : DT X F (.Compare a [op] [b] pos) (dTst (dOp o ta tb)) := by
  have h := pt_cmpR (pos := pos) ho ha hb hm
  refine ⟨fun pins s σ H Q I q => h.run pins s σ H Q I ?_⟩
  obtain ⟨env, os, r0, Q', z, f⟩ := q
  refine op_run l ⟨env, os, r0, _, z, fun rv e1 q v os' H' g hd n => ?_⟩
  obtain ⟨b, e2, q⟩ := hd.bool q
  exact ⟨b, e2, f _ _ q os' H' g⟩
theorem dt_val {t : DTV} (h : DV X F e t) (he : ∀ whole, isTrue e X.env whole = (do let v ← whole; standAt e.pos; holding [v] (truthy v)) := by intro _; rfl) : DT X F e (dTst t) := by
  have h := pt_val h he
  refine ⟨fun pins s σ H Q I q => h.run pins s σ H Q I ?_⟩
  obtain ⟨env, os, r0, Q', z, f⟩ := q
  refine ⟨env, os, r0, _, z, fun rv e1 q v os' H' g hd n => ?_⟩
  obtain ⟨b, e2, q⟩ := hd.bool q
  exact ⟨b, e2, f _ _ q os' H' g⟩
def dNot (t : DTT) : DTT := fun env Q => t env fun b e1 => Q (!b) e1
theorem dt_not {t : DTT} (h : DT X F e t) : DT X F (.UnaryOp .Not e pos) (dNot t) := by
  have h := pt_not (pos := pos) h
  refine ⟨fun pins s σ H Q I q => h.run pins s σ H Q I ?_⟩
  obtain ⟨env, os, r0, Q', z, f⟩ := q
  exact ⟨env, os, r0, _, z, fun b e1 q os' H' g => f _ _ q os' H' g⟩
abbrev DW (X : Cx) (F : Fm) (e : Expr) (t : DTT) : Prop := PW X e (upT X.K F t)
def dAnd (t u : DTT) : DTT := fun env Q => t env fun b e1 => if b = true then u e1 Q else Q false e1
def dOr (t u : DTT) : DTT := fun env Q => t env fun b e1 => if b = true then Q true e1 else u e1 Q
variable {rest : List Expr}
theorem and_run {K : PySem.W.Frag} {t u : DTT} {σ : L2.St} {H : Hp} {Q : Bool → Hp → Prop} (h : upT K F (dAnd t u) σ H Q) : tAnd (upT K F t) (upT K F u) σ H Q := by
  obtain ⟨env, os, r0, Q', z, f⟩ := h
  refine ⟨env, os, r0, _, z, fun b e1 q os1 H1 g1 => ?_⟩
  cases b with
  | true => exact iteT ⟨e1, os1, g1.r, _, (by simpa using q), fun b2 e2 q2 os2 H2 g2 => f _ _ q2 os2 H2 (g1.trans r0 g2)⟩
  | false => exact iteF (f _ _ (by simpa using q) os1 H1 g1)
theorem or_run {K : PySem.W.Frag} {t u : DTT} {σ : L2.St} {H : Hp} {Q : Bool → Hp → Prop} (h : upT K F (dOr t u) σ H Q) : tOr (upT K F t) (upT K F u) σ H Q := by
  obtain ⟨env, os, r0, Q', z, f⟩ := h
  refine ⟨env, os, r0, _, z, fun b e1 q os1 H1 g1 => ?_⟩
  cases b with
  | false => exact iteF ⟨e1, os1, g1.r, _, (by simpa using q), fun b2 e2 q2 os2 H2 g2 => f _ _ q2 os2 H2 (g1.trans r0 g2)⟩
  | true => exact iteT (f _ _ (by simpa using q) os1 H1 g1)
theorem dw_and1 {t : DTT} (h : DT X F a t) : DW X F (.BoolOp .And [a] pos) t := pw_and1 h
theorem dw_or1 {t : DTT} (h : DT X F a t) : DW X F (.BoolOp .Or [a] pos) t := pw_or1 h
theorem dw_and {t u : DTT} (h : DT X F a t) (g : DW X F (.BoolOp .And (b :: rest) pos) u) : DW X F (.BoolOp .And (a :: b :: rest) pos) (dAnd t u) :=
  ⟨fun wh pins s σ H Q I q => (pw_and h g).run wh pins s σ H Q I (and_run q)⟩
theorem dw_or {t u : DTT} (h : DT X F a t) (g : DW X F (.BoolOp .Or (b :: rest) pos) u) : DW X F (.BoolOp .Or (a :: b :: rest) pos) (dOr t u) :=
  ⟨fun wh pins s σ H Q I q => (pw_or h g).run wh pins s σ H Q I (or_run q)⟩
theorem dt_w {t : DTT} (h : DW X F e t) : DT X F e t := h.pt
/-- the same as values -/
def dAndV (t u : DTV) : DTV := fun env Q => t env fun r e1 => r.bool fun b => if b = true then u e1 Q else Q (.dat (.bl false)) e1
def dOrV (t u : DTV) : DTV := fun env Q => t env fun r e1 => r.bool fun b => if b = true then Q (.dat (.bl true)) e1 else u e1 Q
def dNotV (t : DTV) : DTV := fun env Q => t env fun r e1 => r.bool fun b => Q (.dat (.bl (!b))) e1
theorem dv_one {op} {t : DTV} (h : DV X F a t) : DV X F (.BoolOp op [a] pos) t := pe_one h
theorem dv_and {t u : DTV} (h : DV X F a t) (g : DV X F (.BoolOp .And (b :: rest) pos) u) : DV X F (.BoolOp .And (a :: b :: rest) pos) (dAndV t u) := imp (pe_and h g) fun σ H Q ⟨env, os, r0, Q', z, f⟩ =>
  ⟨env, os, r0, _, z, fun rv e1 q v os1 H1 g1 hd _ => by
    obtain ⟨b, rfl, q⟩ := hd.bool q
    refine ⟨b, rfl, ?_⟩
    cases b with
    | true => exact iteT ⟨e1, os1, g1.r, _, (by simpa using q), fun r2 e2 q2 v2 os2 H2 g2 h2 n2 => f _ _ q2 v2 os2 H2 (g1.trans r0 g2) h2 (NewOf.back g1 n2)⟩
    | false => exact iteF (f (.dat (.bl false)) e1 (by simpa using q) _ os1 H1 g1 (Dr.bl false) trivial)⟩
theorem dv_or {t u : DTV} (h : DV X F a t) (g : DV X F (.BoolOp .Or (b :: rest) pos) u) : DV X F (.BoolOp .Or (a :: b :: rest) pos) (dOrV t u) := imp (pe_or h g) fun σ H Q ⟨env, os, r0, Q', z, f⟩ =>
  ⟨env, os, r0, _, z, fun rv e1 q v os1 H1 g1 hd _ => by
    obtain ⟨b, rfl, q⟩ := hd.bool q
    refine ⟨b, rfl, ?_⟩
    cases b with
    | false => exact iteF ⟨e1, os1, g1.r, _, (by simpa using q), fun r2 e2 q2 v2 os2 H2 g2 h2 n2 => f _ _ q2 v2 os2 H2 (g1.trans r0 g2) h2 (NewOf.back g1 n2)⟩
    | true => exact iteT (f (.dat (.bl true)) e1 (by simpa using q) _ os1 H1 g1 (Dr.bl true) trivial)⟩
theorem dv_not {t : DTV} (h : DV X F a t) : DV X F (.UnaryOp .Not a pos) (dNotV t) := imp (pe_not h) fun σ H Q ⟨env, os, r0, Q', z, f⟩ =>
  ⟨env, os, r0, _, z, fun rv e1 q v os1 H1 g1 hd _ => by
    obtain ⟨b, rfl, q⟩ := hd.bool q
    exact ⟨b, rfl, f _ _ q _ os1 H1 g1 (show Dr _ _ _ _ from .bl _) trivial⟩⟩
def dIfE (c : DTT) (t u : DTV) : DTV := fun env Q => c env fun b e1 => if b = true then t e1 Q else u e1 Q
theorem dv_ifE {tc : DTT} {t u : DTV} (hc : DT X F c tc) (h : DV X F a t) (g : DV X F b u) : DV X F (.IfExp c a b pos) (dIfE tc t u) := imp (pe_ifExp hc h g) fun σ H Q ⟨env, os, r0, Q', z, f⟩ =>
  ⟨env, os, r0, _, z, fun bb e1 q os1 H1 g1 => by
    cases bb with
    | true => exact iteT ⟨e1, os1, g1.r, _, (by simpa using q), fun r2 e2 q2 v2 os2 H2 g2 h2 n2 => f _ _ q2 v2 os2 H2 (g1.trans r0 g2) h2 (NewOf.back g1 n2)⟩
    | false => exact iteF ⟨e1, os1, g1.r, _, (by simpa using q), fun r2 e2 q2 v2 os2 H2 g2 h2 n2 => f _ _ q2 v2 os2 H2 (g1.trans r0 g2) h2 (NewOf.back g1 n2)⟩⟩
/-! ### unary operators, built-ins of one argument -/
def Lift1 (K : PySem.W.Frag) (r : V → Hp → VK → Prop) (o : Rv → (Rv → Prop) → Prop) : Prop := ∀ (F : Fm) (os : List Addr) (env : Ev) (σ : L2.St) (H : Hp) (v : V) (ra : Rv) (Q : VK) (k : Rv → Prop), R K F os H σ env → Hd K F env os H v ra → o ra k →
  (∀ rv u os' H', k rv → Go K F σ os H env os' H' env → Hd K F env os' H' u rv → NewOf os u rv → Q u H') → r v H Q
def dUn (o : Rv → (Rv → Prop) → Prop) (t : DTV) : DTV := fun env Q => t env fun ra e1 => o ra fun rv => Q rv e1
theorem un_run {K : PySem.W.Frag} {r : V → Hp → VK → Prop} {o : Rv → (Rv → Prop) → Prop} (l : Lift1 K r o) {ta : DTV} {σ : L2.St} {H : Hp} {Q : VK} (h : upV K F (dUn o ta) σ H Q) : upV K F ta σ H fun x H1 => r x H1 Q := by
  obtain ⟨env, os, r0, Q', z, f⟩ := h
  exact ⟨env, os, r0, _, z, fun ra e1 q v os1 H1 g1 h1 n1 => l F os1 e1 σ H1 v ra Q _ g1.r h1 q fun rv u os3 H3 q3 g3 h3 n3 => f _ _ q3 u os3 H3 (g1.trans r0 g3) h3 (NewOf.back g1 n3)⟩
theorem dv_un {op : UnaryOp} {r : V → Hp → VK → Prop} {o : Rv → (Rv → Prop) → Prop} {ta : DTV} (ho : UnR X (unaryOp op) r) (l : Lift1 X.K r o) (ha : DV X F a ta) : DV X F (.UnaryOp op a pos) (dUn o ta) := imp (pe_un ho ha) fun σ H Q h => un_run l h
variable {x : Str} {p : Pos}
theorem dv_b1 {id : String} {r : List V → Hp → VK → Prop} {o : Rv → (Rv → Prop) → Prop} {ta : DTV} (hc : CallR X (.builtin id) r) (l : Lift1 X.K (fun v => r [v]) o) (hm : X.mg x = none) (ha : DV X F a ta) (hv : bootBuiltins x = some (.builtin id) := by decide +kernel) (hg : Gl X x := by rfl) (hn : x ≠ "__name__" := by decide) (hdb : (x == ("__debug__" : Str)) = false := by decide)
    (he : starEach [a] X.env = (false, eval a X.env) :: starEach [] X.env := by rfl) (hpl : (backTo pos (starEach [] X.env)).any (·.1) = false := by rfl) : DV X F (.Call (.Name x p) [a] [] pos) (dUn o ta) :=
  imp (pe_callB hc hg hm hv (pa_cons ha pa_nil he) hn hdb he hpl) fun σ H Q h => un_run l h
theorem dv_t1 {T : String} {r : List V → Hp → VK → Prop} {o : Rv → (Rv → Prop) → Prop} {ta : DTV} (hc : CallR X (.type T) r) (l : Lift1 X.K (fun v => r [v]) o) (hm : X.mg x = none) (ha : DV X F a ta) (hv : bootBuiltins x = some (.type T) := by decide +kernel) (hg : Gl X x := by rfl) (hn : x ≠ "__name__" := by decide) (hdb : (x == ("__debug__" : Str)) = false := by decide)
    (he : starEach [a] X.env = (false, eval a X.env) :: starEach [] X.env := by rfl) (hpl : (backTo pos (starEach [] X.env)).any (·.1) = false := by rfl) : DV X F (.Call (.Name x p) [a] [] pos) (dUn o ta) :=
  imp (pe_callTy hc hg hm hv (pa_cons ha pa_nil he) hn hdb he hpl) fun σ H Q h => un_run l h
/-! ### new tuples and lists -/
def dTup (t : DTA) : DTE := fun env Q => t env fun ds e1 => ds.length ≤ 1000 ∧ Q (.tup ds) e1
def dLst (t : DTA) : DTV := fun env Q => t env fun ds e1 => ds.length ≤ 1000 ∧ Q (.new ds) e1
/-- a new list on hand -/
theorem R.newL {K : PySem.W.Frag} {F : Fm} {os : List Addr} {H : Hp} {σ : L2.St} {env : Ev} (r : R K F os H σ env) {p : Addr} (np : H p = none) {vs : List V} {ds : List D} (h : DrA K (hid os H) vs ds) : Hd K F env (p :: os) (upd H p (.lst vs)) (.ref p) (.new ds) :=
  ⟨p, vs, rfl, List.mem_cons_self, fun i z => r.off np (r.mem i p z), r.new0 np, fun m => r.off np (r.sub p m), upd_same, h.up (hid_new np)⟩
theorem de_tup {ta : DTA} {k : Nat} (h : DA X F es ta) : DE X F (.Tuple es k pos) (dTup ta) := imp (pe_tup h) fun σ H Q ⟨env, os, r0, Q', z, f⟩ =>
  ⟨env, os, r0, _, z, fun ds e1 ⟨l, q⟩ vs os1 H1 g1 h1 => ⟨by rw [h1.length]; exact Nat.le_of_lt (small1000 l), fun p np =>
    f _ _ q _ os1 _ (g1.trans r0 (Go.same g1.r (same_new np))) (.tup (.inl (.inl (hid_at upd_same fun m => g1.r.here p m np))) (h1.up (hid_up (same_new np))))⟩⟩
theorem dv_lst {ta : DTA} (h : DA X F es ta) : DV X F (.List es pos) (dLst ta) := imp (pe_lst h) fun σ H Q ⟨env, os, r0, Q', z, f⟩ =>
  ⟨env, os, r0, _, z, fun ds e1 ⟨l, q⟩ vs os1 H1 g1 h1 => ⟨by rw [h1.length]; exact Nat.le_of_lt (small1000 l), fun p np =>
    f _ _ q _ _ _ (g1.trans r0 (Go.hide g1.r np)) (g1.r.newL np h1) fun p' e m => by cases e; exact g1.r.off np (g1.sub p m)⟩⟩
/-! ### calls -/
structure Er where
  C : Addr
  ns : List Str
  ds : List D
abbrev DF := List D → (D → Prop) → (Er → Prop) → Prop
def ErR (K : PySem.W.Frag) (fr B : List Addr) (H : Hp) (E : XK) (e : Er) : Prop := ∀ dd H' vs, (∀ c o, c ∉ B → H c = some o → H' c = some o) → (∀ b ∈ B, BagAt H' b) → hid fr H' dd = some (.xd (e.ns.zip vs)) → e.ns.length = vs.length → DrA K (hid fr H') vs e.ds → E (.ref e.C) (some dd) H'
def spD (K : PySem.W.Frag) (n : Nat) (f : DF) : Sp := fun vs H Q E => ∃ ds fr, vs.length = n ∧ (∀ a ∈ fr, H a ≠ none) ∧ DrA K (hid fr H) vs ds ∧ ∃ (k : D → Prop) (x : Er → Prop), f ds k x ∧ (∀ d, k d → ∀ v H', Same H H' → Dr K (hid fr H') v d → Q v H') ∧ ∀ e, x e → ErR K fr [] H E e
def spB (K : PySem.W.Frag) (n : Nat) (f : DF) : Sp := fun vs H Q E => ∃ b us ds fr, vs = .ref b :: us ∧ us.length = n ∧ BagAt H b ∧ b ∈ fr ∧ (∀ a ∈ fr, H a ≠ none) ∧ DrA K (hid fr H) us ds ∧ ∃ (k : D → Prop) (x : Er → Prop), f ds k x ∧ (∀ d, k d → ∀ v H', But b H H' → BagAt H' b → Dr K (hid fr H') v d → Q v H') ∧ ∀ e, x e → ErR K fr [b] H E e
/-- what the def's own callers want of an error -/
def ExR (K : PySem.W.Frag) (F : Fm) (E : XK) (x : Er → Prop) : Prop := ∀ e, x e → ∀ σ env os H, R K F os H σ env → ErR K os [] H E e
def dCall (n : Nat) (f : DF) (x : Er → Prop) (t : DTA) : DTE := fun env Q => t env fun ds e1 => ds.length = n ∧ f ds (fun d => Q d e1) x
variable {CX : CXT} {k : Nat} {f : Addr} {fd : FuncData} {ps : List Str} {df : DF} {ds : List Value} {E : XK}
theorem de_call {ta : DTA} {n : Nat} {xr : Er → Prop} (G : FnOk X.prog X.w X.K X.mg X.base CX k f fd ps (spD X.K n df)) (hr : Room k X.A) (hm : X.mg x = some (.ref f)) (hk : PySem.W.keepIn X.K (.ref f) = true) (hb : Binds X.K fd ps []) (hx : Passes CX X E) (hE : ExR X.K F E xr)
    (ha : DA X F (e :: es) ta) (hg : Gl X x := by rfl) (hdb : (x == ("__debug__" : Str)) = false := by decide) (he : starEach (e :: es) X.env = (false, eval e X.env) :: starEach es X.env := by rfl) (hpl : (backTo pos (starEach es X.env)).any (·.1) = false := by rfl) :
    DE X F (.Call (.Name x p) (e :: es) [] pos) (dCall n df xr ta) :=
  imp (pe_call G hr hg hm hk hb .nil hx ha hdb he hpl) fun σ H Q ⟨env, os, r0, Q', z, fin⟩ =>
    ⟨env, os, r0, _, z, fun ds e1 ⟨l, q⟩ vs os1 H1 g1 h1 => by
      show spD X.K n df (vs ++ []) H1 Q E
      rw [List.append_nil]
      exact ⟨ds, os1, by rw [h1.length]; exact l, g1.r.here, h1, _, _, q, fun d q v H' s w => fin _ _ q v os1 H' (g1.trans r0 (Go.same g1.r s)) w, fun er q => hE er q σ e1 os1 H1 g1.r⟩⟩
/-! ### calls with the deck as the first argument -/
def isBag (env : Ev) (i : Nat) : Prop := match env[i]? with
  | some (.bag _) => True
  | _ => False
theorem isBag.ex {env : Ev} {i : Nat} (h : isBag env i) : ∃ b, env[i]? = some (.bag b) := by
  unfold isBag at h
  cases q : env[i]? with
  | none => rw [q] at h; exact h.elim
  | some s =>
    rw [q] at h
    cases s with
    | bag b => exact ⟨b, rfl⟩
    | _ => exact h.elim
def dCallB (i n : Nat) (f : DF) (t : DTA) : DTE := fun env Q => isBag env i ∧ t env fun ds e1 => (isBag e1 i ∧ ds.length = n) ∧ f ds (fun d => Q d e1) fun _ => False
theorem R.bag {K : PySem.W.Frag} {F : Fm} {os : List Addr} {H H' : Hp} {σ : L2.St} {env : Ev} (r : R K F os H σ env) {i : Nat} {b : Addr} (e : env[i]? = some (.bag b)) (s : But b H H') (hb : BagAt H' b) : Go K F σ os H env os H' env := by
  have at_ : adAt env i = some b := by unfold adAt; rw [e]; rfl
  have m := r.mem i b at_
  have hs : Same (hid os H) (hid os H') := fun c o q => hid_at (s c o (fun z => (hid_of q).2 (by rw [z]; exact m)) (hid_of q).1) (hid_of q).2
  have hn : ∀ c, H' c = none → H c = none ∨ c = b := fun c z => by
    by_cases q : c = b
    · exact .inr q
    · cases e : H c with
      | none => exact .inl rfl
      | some o => rw [s c o q e] at z; cases z
  refine ⟨⟨r.len, fun j t ej => ?_, r.nd, r.mem, fun c o n q => ?_, r.new, r.sub, fun a h z => ?_, r.hB, r.osn⟩, fun _ => rfl, fun c o n q => s c o (fun z => n i (by rw [at_, z])) q, fun _ h => .inl h, fun _ h => h⟩
  · obtain ⟨x, e1, q⟩ := r.sl j t ej
    refine ⟨x, e1, ?_⟩
    cases t with
    | no => exact q
    | dat d => obtain ⟨v, e2, q⟩ := q; exact ⟨v, e2, q.up hs⟩
    | exc a dd ns ds => obtain ⟨e2, vs, e3, l3, q⟩ := q; exact ⟨e2, vs, hs _ _ e3, l3, q.up hs⟩
    | own a ds =>
      obtain ⟨e2, vs, e3, q⟩ := q
      refine ⟨e2, vs, s a _ (fun z => ?_) e3, q.up hs⟩
      have : adAt env j = some b := by unfold adAt; rw [ej, ← z]; rfl
      have ij := r.nd j i b this at_
      rw [ij, e] at ej
      cases ej
    | bag a =>
      obtain ⟨e2, q⟩ := q
      refine ⟨e2, ?_⟩
      have h1 : adAt env j = some a := by unfold adAt; rw [ej]; rfl
      by_cases z : a = b
      · rw [z]; exact hb
      · obtain ⟨o, q1, q2⟩ := q
        exact ⟨o, s a o z q1, q2⟩
    | any => trivial
  · by_cases z : c = b
    · rcases r.new i b at_ with w | w
      · exact absurd (by rw [z]; exact w) n
      · rw [z, w] at q; cases q
    · exact s c o z (r.keep c o n q)
  · rcases hn a z with w | w
    · exact r.here a h w
    · obtain ⟨o, q1, _⟩ := hb
      rw [w, q1] at z
      cases z
theorem de_callB {ta : DTA} {n i : Nat} {ab : Expr} (G : FnOk X.prog X.w X.K X.mg X.base CX k f fd ps (spB X.K n df)) (hr : Room k X.A) (hm : X.mg x = some (.ref f)) (hk : PySem.W.keepIn X.K (.ref f) = true) (hb : Binds X.K fd ps []) (hx : Passes CX X fun _ _ _ => False)
    (hv : PE X ab (tVar i)) (ha : DA X F es ta) (hg : Gl X x := by rfl) (hdb : (x == ("__debug__" : Str)) = false := by decide) (he : starEach (ab :: es) X.env = (false, eval ab X.env) :: starEach es X.env := by rfl) (hpl : (backTo pos (starEach es X.env)).any (·.1) = false := by rfl) :
    DE X F (.Call (.Name x p) (ab :: es) [] pos) (dCallB i n df ta) :=
  imp (pe_call G hr hg hm hk hb .nil hx (pa_cons hv ha he) hdb he hpl) fun σ H Q ⟨env, os, r0, Q', z, fin⟩ => by
    obtain ⟨hbag, z⟩ := z
    obtain ⟨b, es0⟩ := hbag.ex
    obtain ⟨x, e1, rfl, e2⟩ := r0.sl i _ es0
    refine ⟨_, e1, env, os, r0, _, z, fun ds e1 ⟨⟨hbg, l⟩, q⟩ vs os1 H1 g1 h1 => ?_⟩
    obtain ⟨b1, es1⟩ := hbg.ex
    have at0 : adAt env i = some b := by unfold adAt; rw [es0]; rfl
    have at1 : adAt e1 i = some b1 := by unfold adAt; rw [es1]; rfl
    have eb : b1 = b := by
      have := (g1.ad i).trans at0
      rw [at1] at this
      cases this
      rfl
    subst eb
    show spB X.K n df ((.ref b1 :: vs) ++ []) H1 Q _
    rw [List.append_nil]
    obtain ⟨x1, f1, rfl, f2⟩ := g1.r.sl i _ es1
    exact ⟨b1, vs, ds, os1, rfl, by rw [h1.length]; exact l, f2, g1.r.mem i b1 at1, g1.r.here, h1, _, _, q, fun d q v H' s hb w => fin _ _ q v os1 H' (g1.trans r0 (g1.r.bag es1 s hb)) w, fun er z => z.elim⟩
end
end DL
namespace DL
open PySem PySem.Spec PyProof.Rows L2 LL
theorem adAt_set {env : Ev} {i j : Nat} {s : Sl} : adAt (env.set i s) j = if i = j ∧ i < env.length then s.ad else adAt env j := by
  unfold adAt
  rw [List.getElem?_set]
  by_cases h : i = j
  · subst h
    by_cases l : i < env.length
    · rw [if_pos rfl, if_pos l, if_pos ⟨rfl, l⟩]; rfl
    · rw [if_pos rfl, if_neg l, if_neg (fun z => l z.2), List.getElem?_eq_none (by omega)]
  · rw [if_neg h, if_neg (fun z => h z.1)]
section
variable {K : PySem.W.Frag} {F : Fm} {σ : L2.St} {os os' : List Addr} {H H' : Hp} {env env' : Ev}
theorem R.set (r : R K F os H σ env) {i : Nat} {s : Sl} {v : V} (hs : SlR K os H s (some v)) (ha : ∀ a, s.ad = some a → a ∈ os ∧ (∀ j, adAt env j ≠ some a) ∧ (a ∈ F.B ∨ F.H0 a = none)) : R K F os H (σ.set i (some v)) (env.set i s) := by
  refine ⟨by rw [List.length_set, List.length_set]; exact r.len, fun j t e => ?_, fun j l a e1 e2 => ?_, fun j a e => ?_, r.keep, fun j a e => ?_, r.sub, r.here, r.hB, r.osn⟩
  · rw [List.getElem?_set] at e ⊢
    by_cases h : i = j
    · subst h
      rw [if_pos rfl] at e ⊢
      by_cases l : i < env.length
      · rw [if_pos l] at e
        cases e
        rw [if_pos (by rw [← r.len]; exact l)]
        exact ⟨_, rfl, hs⟩
      · rw [if_neg l] at e; cases e
    · rw [if_neg h] at e ⊢
      exact r.sl j t e
  · rw [adAt_set] at e1 e2
    by_cases h1 : i = j ∧ i < env.length
    · rw [if_pos h1] at e1
      by_cases h2 : i = l ∧ i < env.length
      · exact h1.1.symm.trans h2.1
      · rw [if_neg h2] at e2
        exact absurd e2 ((ha a e1).2.1 l)
    · rw [if_neg h1] at e1
      by_cases h2 : i = l ∧ i < env.length
      · rw [if_pos h2] at e2
        exact absurd e1 ((ha a e2).2.1 j)
      · rw [if_neg h2] at e2
        exact r.nd j l a e1 e2
  · rw [adAt_set] at e
    by_cases h1 : i = j ∧ i < env.length
    · rw [if_pos h1] at e
      exact (ha a e).1
    · rw [if_neg h1] at e
      exact r.mem j a e
  · rw [adAt_set] at e
    by_cases h1 : i = j ∧ i < env.length
    · rw [if_pos h1] at e
      exact (ha a e).2.2
    · rw [if_neg h1] at e
      exact r.new j a e
theorem R.setD (r : R K F os H σ env) {i : Nat} {d : D} {v : V} (h : Dr K (hid os H) v d) : R K F os H (σ.set i (some v)) (env.set i (.dat d)) := r.set ⟨v, rfl, h⟩ fun a z => nomatch z
/-- another list in the place of an own one -/
theorem R.put (r : R K F os H σ env) {i : Nat} {a : Addr} {ds es : List D} {vs : List V} (e : env[i]? = some (.own a ds)) (h : DrA K (hid os H) vs es) : Go K F σ os H env os (upd H a (.lst vs)) (env.set i (.own a es)) := by
  have at_ : adAt env i = some a := by unfold adAt; rw [e]; rfl
  have m := r.mem i a at_
  have hu : hid os (upd H a (.lst vs)) = hid os H := hid_upd m
  have ads : ∀ j, adAt (env.set i (.own a es)) j = adAt env j := fun j => by
    rw [adAt_set]
    by_cases h1 : i = j ∧ i < env.length
    · rw [if_pos h1, ← h1.1, at_]; rfl
    · rw [if_neg h1]
  refine ⟨⟨by rw [List.length_set]; exact r.len, fun j t ej => ?_, fun j l b e1 e2 => r.nd j l b (by rw [← ads]; exact e1) (by rw [← ads]; exact e2), fun j b e1 => r.mem j b (by rw [← ads]; exact e1), fun c o n q => ?_, fun j b e1 => r.new j b (by rw [← ads]; exact e1), r.sub, fun b hb => ?_, r.hB, r.osn⟩, ads, fun c o n q => by rw [upd_ne fun z => n i (by rw [at_, z])]; exact q, fun _ h => .inl h, fun _ h => h⟩
  · rw [List.getElem?_set] at ej
    by_cases hij : i = j
    · subst hij
      rw [if_pos rfl] at ej
      by_cases l : i < env.length
      · rw [if_pos l] at ej
        cases ej
        obtain ⟨x, e1, e2, _⟩ := r.sl i _ e
        exact ⟨x, e1, e2, vs, upd_same, by rw [hu]; exact h⟩
      · rw [if_neg l] at ej; cases ej
    · rw [if_neg hij] at ej
      obtain ⟨x, e1, q⟩ := r.sl j t ej
      refine ⟨x, e1, ?_⟩
      cases t with
      | no => exact q
      | dat d => obtain ⟨v, e2, q⟩ := q; exact ⟨v, e2, by rw [hu]; exact q⟩
      | exc a dd ns ds => obtain ⟨e2, vs, e3, l3, q⟩ := q; exact ⟨e2, vs, by rw [hu]; exact e3, l3, by rw [hu]; exact q⟩
      | own b bs =>
        obtain ⟨e2, ws, e3, q⟩ := q
        refine ⟨e2, ws, ?_, by rw [hu]; exact q⟩
        rw [upd_ne]
        · exact e3
        · intro z
          exact hij (r.nd i j a at_ (by unfold adAt; rw [ej, ← z]; rfl))
      | bag b =>
        obtain ⟨e2, o, e3, q⟩ := q
        refine ⟨e2, o, ?_, q⟩
        rw [upd_ne]
        · exact e3
        · intro z
          exact hij (r.nd i j a at_ (by unfold adAt; rw [ej, ← z]; rfl))
      | any => trivial
  · by_cases z : c = a
    · rcases r.new i a at_ with w | w
      · exact absurd (by rw [z]; exact w) n
      · rw [z, w] at q; cases q
    · rw [upd_ne z]; exact r.keep c o n q
  · by_cases z : b = a
    · rw [z, upd_same]; simp
    · rw [upd_ne z]; exact r.here b hb
end
section
variable {X : Cx} {F : Fm} {e a b c : Expr} {es : List Expr} {pos : Pos} {st : Stmt} {rest body : List Stmt}
theorem impS {s : Stmt} {t t' : TS} (h : PS X s t) (w : ∀ D σ H, t' D σ H → t D σ H) : PS X s t' := ⟨fun pins s σ H D I q => h.run pins s σ H D I (w D σ H q)⟩
theorem impSs {s : List Stmt} {t t' : TS} (h : PSs X s t) (w : ∀ D σ H, t' D σ H → t D σ H) : PSs X s t' := ⟨fun pins s σ H D I q => h.run pins s σ H D I (w D σ H q)⟩
def dNext : DTS := fun D env => D.nx env
def dSeq (t u : DTS) : DTS := fun D env => t { D with nx := u D } env
theorem dss_nil : DSs X F [] dNext := impSs pss_nil fun D σ H ⟨env, os, r, D', q, w⟩ => w.nx _ q os σ H r
theorem dss_cons {t u : DTS} (h : DS X F st t) (g : DSs X F rest u) : DSs X F (st :: rest) (dSeq t u) := impSs (pss_cons h g) fun D σ H ⟨env, os, r, D', q, w⟩ =>
  ⟨env, os, r, _, q, ⟨fun env' q' os' σ' H' r' => ⟨env', os', r', D', q', w⟩, w.rt, w.bk, w.ct⟩⟩
theorem dss_one {t : DTS} (h : DS X F st t) : DSs X F [st] t := pss_one h
def dIf (c : DTT) (t u : DTS) : DTS := fun D env => c env fun b e1 => if b = true then t D e1 else u D e1
theorem ds_if {tc : DTT} {t u : DTS} {th el : List Stmt} (hc : DT X F c tc) (h : DSs X F th t) (g : DSs X F el u) : DS X F (.If c th el pos) (dIf tc t u) := impS (ps_if hc h g) fun D σ H ⟨env, os, r, D', q, w⟩ =>
  ⟨env, os, r, _, q, fun b e1 q os1 H1 g1 => by
    cases b with
    | true => exact iteT ⟨e1, os1, g1.r, D', (by simpa using q), w⟩
    | false => exact iteF ⟨e1, os1, g1.r, D', (by simpa using q), w⟩⟩
def dRet (t : DTV) : DTS := fun D env => t env fun rv e1 => D.rt rv e1
theorem ds_ret {t : DTV} (h : DV X F e t) : DS X F (.Return (some e) pos) (dRet t) := impS (ps_ret h) fun D σ H ⟨env, os, r, D', q, w⟩ =>
  ⟨env, os, r, _, q, fun rv e1 q v os1 H1 g1 hd _ => w.rt _ _ q v os1 σ H1 g1.r hd⟩
theorem ds_pass : DS X F (.Pass pos) dNext := impS ps_pass fun D σ H ⟨env, os, r, D', q, w⟩ => w.nx _ q os σ H r
def dDrop (t : DTV) : DTS := fun D env => t env fun _ e1 => D.nx e1
theorem ds_expr {t : DTV} (h : DV X F e t) (hs : swapsWith e none pos.line X.env = pure false := by rfl) : DS X F (.Expr e pos) (dDrop t) := impS (ps_expr h hs) fun D σ H ⟨env, os, r, D', q, w⟩ =>
  ⟨env, os, r, _, q, fun rv e1 q v os1 H1 g1 hd _ => w.nx _ q os1 σ H1 g1.r⟩
/-! ### targets -/
abbrev DTG := D → Ev → (Ev → Prop) → Prop
abbrev DTGs := List D → Ev → (Ev → Prop) → Prop
/-- unlike at most at the slots ts -/
structure Off (ts : List Nat) (σ σ' : L2.St) : Prop where
  len : σ'.length = σ.length
  at_ : ∀ i : Nat, i ∉ ts → σ'[i]? = σ[i]?
def upG (K : PySem.W.Frag) (F : Fm) (ts : List Nat) (t : DTG) : TG := fun v σ H Q => ∃ env os d, R K F os H σ env ∧ Dr K (hid os H) v d ∧ ∃ Q', t d env Q' ∧ ∀ env', Q' env' → ∀ σ', Off ts σ σ' → R K F os H σ' env' → Q σ' H
def upGs (K : PySem.W.Frag) (F : Fm) (ts : List Nat) (t : DTGs) : TGs := fun vs σ H Q => ∃ env os ds, R K F os H σ env ∧ DrA K (hid os H) vs ds ∧ ∃ Q', t ds env Q' ∧ ∀ env', Q' env' → ∀ σ', Off ts σ σ' → R K F os H σ' env' → Q σ' H
abbrev DG (X : Cx) (F : Fm) (e : Expr) (ts : List Nat) (t : DTG) : Prop := PG X e (upG X.K F ts t)
abbrev DGs (X : Cx) (F : Fm) (e : List Expr) (ts : List Nat) (t : DTGs) : Prop := PGs X e (upGs X.K F ts t)
theorem impG {t t' : TG} (h : PG X e t) (w : ∀ v σ H Q, t' v σ H Q → t v σ H Q) : PG X e t' := ⟨fun pins s σ H v u Q I r q => h.run pins s σ H v u Q I r (w v σ H Q q)⟩
theorem impGs {t t' : TGs} (h : PGs X es t) (w : ∀ v σ H Q, t' v σ H Q → t v σ H Q) : PGs X es t' := ⟨fun pins s σ H v u Q I r q => h.run pins s σ H v u Q I r (w v σ H Q q)⟩
def dName (i : Nat) : DTG := fun d env Q => Q (env.set i (.dat d))
theorem dg_name {i : Nat} {x : Str} (hN : X.N.Nodup) (hi : X.N[i]? = some x := by rfl) (hx : Loc X.env.scope x := by first | exact .inl rfl | exact .inr rfl) (hf : X.fn x = true ∨ X.env.scope.names.lookup x = some .local := by first | exact .inl rfl | exact .inr rfl | assumption) : DG X F (.Name x pos) [i] (dName i) :=
  impG (pg_name hN hi hx hf) fun v σ H Q ⟨env, os, d, r, h, Q', q, w⟩ => w _ q _ ⟨by rw [List.length_set], fun j hj => List.getElem?_set_ne fun z => hj (by rw [z]; exact List.mem_cons_self)⟩ (r.setD h)
def dgNil : DTGs := fun ds env Q => ds = [] ∧ Q env
def dgCons (t : DTG) (u : DTGs) : DTGs := fun ds env Q => match ds with
  | [] => False
  | d :: ds => t d env fun e1 => u ds e1 Q
theorem dgs_nil : DGs X F [] [] dgNil := impGs pgs_nil fun vs σ H Q ⟨env, os, ds, r, h, Q', ⟨e, q⟩, w⟩ => by
  subst e
  cases h
  exact ⟨rfl, w _ q σ ⟨rfl, fun _ _ => rfl⟩ r⟩
theorem dgs_cons {t : DTG} {u : DTGs} {ts us : List Nat} (h1 : DG X F e ts t) (h2 : DGs X F es us u) (hs : (assignEach (e :: es) X.env).map (·.2) = assign e X.env :: (assignEach es X.env).map (·.2) := by rfl) : DGs X F (e :: es) (ts ++ us) (dgCons t u) := impGs (pgs_cons h1 h2 hs) fun vs σ H Q ⟨env, os, ds, r, h, Q', q, w⟩ => by
  cases h with
  | nil => exact q.elim
  | cons h r2 => exact ⟨_, _, rfl, env, os, _, r, h, _, q, fun e1 q σ1 o1 r1 => ⟨e1, os, _, r1, r2, Q', q, fun e2 q2 σ2 o2 r2 => w e2 q2 σ2 ⟨o2.len.trans o1.len, fun i hi => (o2.at_ i fun z => hi (List.mem_append.mpr (.inr z))).trans (o1.at_ i fun z => hi (List.mem_append.mpr (.inl z)))⟩ r2⟩⟩
def dgTup (n : Nat) (t : DTGs) : DTG := fun d env Q => match d with
  | .tup ds => ds.length = n ∧ t ds env Q
  | _ => False
def dgLst (n : Nat) (t : DTGs) : DTG := fun d env Q => match d with
  | .lst ds => ds.length = n ∧ t ds env Q
  | _ => False
theorem dg_tup {k n : Nat} {t : DTGs} {ts : List Nat} (hc : X.calm = true) (h : DGs X F es ts t) (hn : (assignEach es X.env).length = n := by rfl) (hst : (assignEach es X.env).findIdx? (·.1) = none := by rfl) : DG X F (.Tuple es k pos) ts (dgTup n t) := impG (pg_tup hc h hn hst) fun v σ H Q ⟨env, os, d, r, h, Q', q, w⟩ => by
  cases h with
  | tup h1 h2 => exact ⟨_, _, rfl, Same.seqT hid_same h1, by rw [h2.length]; exact q.1, env, os, _, r, h2, Q', q.2, w⟩
  | _ => exact q.elim
theorem dg_lst {k n : Nat} {t : DTGs} {ts : List Nat} (hc : X.calm = true) (h : DGs X F es ts t) (hn : (assignEach es X.env).length = n := by rfl) (hst : (assignEach es X.env).findIdx? (·.1) = none := by rfl) : DG X F (.Tuple es k pos) ts (dgLst n t) := impG (pg_unl hc h hn hst) fun v σ H Q ⟨env, os, d, r, h, Q', q, w⟩ => by
  cases h with
  | lst h1 h2 => exact ⟨_, _, rfl, hid_same.seq h1, by rw [h2.length]; exact q.1, env, os, _, r, h2, Q', q.2, w⟩
  | _ => exact q.elim
def dAsg (t : DTE) (g : DTG) : DTS := fun D env => t env fun d e1 => g d e1 D.nx
theorem ds_asg {tg : Expr} {t : DTE} {g : DTG} {ts : List Nat} (h : DE X F e t) (hg : DG X F tg ts g) (hs : swapsWithSole [tg] e pos.line X.env = pure false := by rfl) (hw : swappedStores [tg] e X.env = pure none := by rfl)
    (h1 : (assignEach [tg] X.env).map (·.2) = [assign tg X.env] := by rfl) : DS X F (.Assign [tg] e pos) (dAsg t g) := impS (ps_asg h hg hs hw h1) fun D σ H ⟨env, os, r, D', q, w⟩ =>
  ⟨env, os, r, _, q, fun d e1 q v os1 H1 g1 hd => ⟨e1, os1, d, g1.r, hd, _, q, fun env' q σ' _ r' => w.nx _ q os1 σ' H1 r'⟩⟩
def dSet (i : Nat) (t : DTE) : DTS := fun D env => t env fun d e1 => D.nx (e1.set i (.dat d))
theorem ds_set {i : Nat} {x : Str} {t : DTE} {pos' : Pos} (hN : X.N.Nodup) (h : DE X F e t) (hi : X.N[i]? = some x := by rfl) (hx : Loc X.env.scope x := by first | exact .inl rfl | exact .inr rfl) (hs : swapsWith e (some (.Name x pos')) pos.line X.env = pure false := by rfl) (hf : X.fn x = true ∨ X.env.scope.names.lookup x = some .local := by first | exact .inl rfl | exact .inr rfl | assumption) :
    DS X F (.Assign [.Name x pos'] e pos) (dSet i t) := impS (ps_set hN hi hx h hs hf) fun D σ H ⟨env, os, r, D', q, w⟩ =>
  ⟨env, os, r, _, q, fun d e1 q v os1 H1 g1 hd => w.nx _ q os1 _ H1 (g1.r.setD hd)⟩
def dStore (i : Nat) (rv : Rv) (env : Ev) (Q : Ev → Prop) : Prop := match rv with
  | .dat d => Q (env.set i (.dat d))
  | .new ds => ∀ a, Q (env.set i (.own a ds))
  | .own _ _ => False
theorem R.store {K : PySem.W.Frag} {σ : L2.St} {os : List Addr} {H : Hp} {env : Ev} {v : V} {rv : Rv} (r : R K F os H σ env) (h : Hd K F env os H v rv) {i : Nat} {Q : Ev → Prop} (q : dStore i rv env Q) : ∃ env', Q env' ∧ R K F os H (σ.set i (some v)) env' := by
  cases rv with
  | dat d => exact ⟨_, q, r.setD h⟩
  | own a ds => exact q.elim
  | new ds =>
    obtain ⟨p, vs, rfl, m, ns, z, o, hp, w⟩ := h
    exact ⟨_, q p, r.set ⟨rfl, vs, hp, w⟩ fun a e => by cases e; exact ⟨m, ns, .inr z⟩⟩
def dOwn (i : Nat) (t : DTV) : DTS := fun D env => t env fun rv e1 => dStore i rv e1 D.nx
theorem ds_own {i : Nat} {x : Str} {t : DTV} {pos' : Pos} (hN : X.N.Nodup) (h : DV X F e t) (hi : X.N[i]? = some x := by rfl) (hx : Loc X.env.scope x := by first | exact .inl rfl | exact .inr rfl) (hs : swapsWith e (some (.Name x pos')) pos.line X.env = pure false := by rfl) (hf : X.fn x = true ∨ X.env.scope.names.lookup x = some .local := by first | exact .inl rfl | exact .inr rfl | assumption) :
    DS X F (.Assign [.Name x pos'] e pos) (dOwn i t) := impS (ps_set hN hi hx h hs hf) fun D σ H ⟨env, os, r, D', q, w⟩ =>
  ⟨env, os, r, _, q, fun rv e1 q v os1 H1 g1 hd _ => by
    obtain ⟨env', q, r'⟩ := g1.r.store hd q
    exact w.nx _ q os1 _ H1 r'⟩
/-! ### a, b = e1, e2 (an own list on either side) -/
def dPar (i j : Nat) (ta tb : DTV) : DTS := fun D env => ta env fun ra e1 => tb e1 fun rb e2 => still ra e1 e2 ∧ dStore i ra e2 fun e3 => still rb e2 e3 ∧ dStore j rb e3 D.nx
/-! ### loops -/
def dWhile (c : DTT) (tb : DTS) : DTS := fun D env => ∃ W : Nat → Ev → Prop, (∃ m, W m env) ∧ ∀ m env, W m env → c env fun b e1 => if b = true then ∃ N : Ev → Prop, (∀ e, N e → ∃ m', m' < m ∧ W m' e) ∧ tb { D with nx := N, ct := N, bk := D.nx } e1 else D.nx e1
theorem ds_while {tc : DTT} {tb : DTS} (hp : PassesOwn (model X.prog X.w) X.A X.env X.xe) (hc : DT X F c tc) (hb : DSs X F body tb) : DS X F (.While c body [] pos) (dWhile tc tb) := impS (ps_while hp hc hb) fun D σ H ⟨env, os, r, D', q, w⟩ => by
  obtain ⟨W, ⟨m0, w0⟩, turn⟩ := q
  refine ⟨fun m σ H => ∃ env os, R X.K F os H σ env ∧ W m env, ⟨m0, env, os, r, w0⟩, ?_⟩
  rintro m σ H ⟨env, os, r, w1⟩
  refine ⟨env, os, r, _, turn m env w1, fun b e1 q os1 H1 g1 => ?_⟩
  cases b with
  | false => exact iteF (w.nx _ (by simpa using q) os1 σ H1 g1.r)
  | true =>
    have q' : ∃ N : Ev → Prop, (∀ e, N e → ∃ m', m' < m ∧ W m' e) ∧ tb { D' with nx := N, ct := N, bk := D'.nx } e1 := by simpa using q
    obtain ⟨N, hN, q'⟩ := q'
    refine iteT ⟨fun σ H => ∃ env os, R X.K F os H σ env ∧ N env, fun σ' H' ⟨env, os, r, n⟩ => ?_, e1, os1, g1.r, _, q', ⟨fun env' n os' σ' H' r' => ⟨env', os', r', n⟩, w.rt, w.nx, fun env' n os' σ' H' r' => ⟨env', os', r', n⟩⟩⟩
    obtain ⟨m', hm, z⟩ := hN env n
    exact ⟨m', hm, env, os, r, z⟩
end
end DL
namespace DL
open PySem PySem.Spec PyProof.Rows L2 LL
/-! ### a narrower frame: what stands at a loop's start -/
structure Sub (K : PySem.W.Frag) (F' F : Fm) : Prop where
  r : ∀ os H σ env, R K F' os H σ env → R K F os H σ env
  h0 : ∀ p, F'.H0 p = none → F.H0 p = none
  os : ∀ p ∈ F.os0, p ∈ F'.os0
theorem Sub.refl {K : PySem.W.Frag} {F : Fm} : Sub K F F := ⟨fun _ _ _ _ r => r, fun _ h => h, fun _ h => h⟩
theorem Sub.trans {K : PySem.W.Frag} {F F' F'' : Fm} (a : Sub K F'' F') (b : Sub K F' F) : Sub K F'' F := ⟨fun os H σ env r => b.r _ _ _ _ (a.r _ _ _ _ r), fun p h => b.h0 p (a.h0 p h), fun p h => a.os p (b.os p h)⟩
theorem Sub.ex {K : PySem.W.Frag} {F F' : Fm} {E : XK} {x : Er → Prop} (s : Sub K F' F) (h : ExR K F E x) : ExR K F' E x := fun e q σ env os H r => h e q σ env os H (s.r _ _ _ _ r)
theorem Sub.hd {K : PySem.W.Frag} {F F' : Fm} (s : Sub K F' F) {env : Ev} {os : List Addr} {H : Hp} {v : V} {rv : Rv} (h : Hd K F' env os H v rv) : Hd K F env os H v rv := by
  cases rv with
  | dat d => exact h
  | own a ds => exact h
  | new ds =>
    obtain ⟨p, vs, e, m, n, z, o, hp, q⟩ := h
    exact ⟨p, vs, e, m, n, s.h0 p z, fun q => o (s.os p q), hp, q⟩
theorem Sub.ends {K : PySem.W.Frag} {F F' : Fm} (s : Sub K F' F) {D' : DEnds} {D : Ends} (h : EndsR K F D' D) : EndsR K F' D' D :=
  ⟨fun e q os σ H r => h.nx e q os σ H (s.r _ _ _ _ r), fun rv e q v os σ H r hd => h.rt rv e q v os σ H (s.r _ _ _ _ r) (s.hd hd), fun e q os σ H r => h.bk e q os σ H (s.r _ _ _ _ r), fun e q os σ H r => h.ct e q os σ H (s.r _ _ _ _ r)⟩
def ads (env : Ev) : List Addr := env.filterMap Sl.ad
theorem mem_ads {env : Ev} {a : Addr} : a ∈ ads env ↔ ∃ i, adAt env i = some a := by
  unfold ads adAt
  rw [List.mem_filterMap]
  constructor
  · rintro ⟨s, m, e⟩
    obtain ⟨i, hi⟩ := List.getElem?_of_mem m
    exact ⟨i, by rw [hi]; exact e⟩
  · rintro ⟨i, e⟩
    cases q : env[i]? with
    | none => rw [q] at e; cases e
    | some s => rw [q] at e; exact ⟨s, List.mem_of_getElem? q, e⟩
section
variable {K : PySem.W.Frag} {F : Fm} {σ : L2.St} {os os' : List Addr} {H H' : Hp} {env env' : Ev}
/-- the frame at this place -/
def Fm.here (os : List Addr) (H : Hp) (env : Ev) : Fm := ⟨H, ads env, os⟩
theorem R.inn (r : R K F os H σ env) : R K (Fm.here os H env) os H σ env :=
  ⟨r.len, r.sl, r.nd, r.mem, fun _ _ _ e => e, fun i a e => .inl (mem_ads.mpr ⟨i, e⟩), fun _ h => h, r.here, fun b hb => by obtain ⟨i, e⟩ := mem_ads.mp hb; exact r.mem i b e, fun _ h => .inl h⟩
theorem R.subF (r : R K F os H σ env) : Sub K (Fm.here os H env) F := by
  refine ⟨fun os' H' σ' env' q => ⟨q.len, q.sl, q.nd, q.mem, fun c o n e => ?_, fun i a e => ?_, fun a h => q.sub a (r.sub a h), q.here, r.hB, fun a h => ?_⟩, fun p h => r.new0 h, fun p h => r.sub p h⟩
  · refine q.keep c o (fun z => ?_) (r.keep c o n e)
    obtain ⟨i, z⟩ := mem_ads.mp z
    rcases r.new i c z with w | w
    · exact n w
    · rw [w] at e; cases e
  · rcases q.new i a e with w | w
    · obtain ⟨j, w⟩ := mem_ads.mp w
      exact r.new j a w
    · exact .inr (r.new0 w)
  · rcases q.osn a h with w | w
    · exact r.osn a w
    · exact .inr (r.new0 w)
end
section
variable {X : Cx} {F : Fm} {e a b c tg iter : Expr} {es : List Expr} {pos : Pos} {st : Stmt} {rest body : List Stmt}
/-! ### what is walked -/
/-- J gives the items ds from here on, as long as what is not owned stands -/
def Wk (K : PySem.W.Frag) (os : List Addr) (H : Hp) (env : Ev) (J : It) (ds : List D) : Prop :=
  ∃ (G : Hp → Prop) (Y : Nat → Hp → V → Hp → Prop), Walk J ds.length G Y ∧ (∀ H', (∀ c o, c ∉ ads env → H c = some o → H' c = some o) → G H') ∧
    ∀ i H1 x H2 d, ds[i]? = some d → Y i H1 x H2 → Same H1 H2 ∧ ∀ os', Same (hid os H) (hid os' H1) → (∀ c ∈ os', H1 c ≠ none) → Dr K (hid os' H2) x d
abbrev DTI := DTA
def upI (K : PySem.W.Frag) (F : Fm) (t : DTI) : TI := fun σ H Q => ∃ env os, R K F os H σ env ∧ ∃ Q', t env Q' ∧ ∀ ds env', Q' ds env' → ∀ J os' H', Go K F σ os H env os' H' env' → Wk K os' H' env' J ds → Q J H'
abbrev DI (X : Cx) (F : Fm) (tg iter : Expr) (t : DTI) : Prop := PI X tg iter (upI X.K F t)
def unG (K : PySem.W.Frag) (F : Fm) (ts : List Nat) (g : DTG) : TG := fun v σ H Q => ∃ F', Sub K F' F ∧ upG K F' ts g v σ H Q
def unS (K : PySem.W.Frag) (F : Fm) (t : DTS) : TS := fun D σ H => ∃ F', Sub K F' F ∧ upS K F' t D σ H
def unT (K : PySem.W.Frag) (F : Fm) (t : DTT) : TT := fun σ H Q => ∃ F', Sub K F' F ∧ upT K F' t σ H Q
def unE (K : PySem.W.Frag) (F : Fm) (t : DTE) : TE := fun σ H Q => ∃ F', Sub K F' F ∧ upE K F' t σ H Q
def dFor (ti : DTI) (g : DTG) (tb : DTS) : DTS := fun D env => ti env fun ds e1 => ∃ I : Nat → Ev → Prop, I 0 e1 ∧ (∀ i d e, ds[i]? = some d → I i e → g d e fun e2 => tb { D with nx := I (i + 1), ct := I (i + 1), bk := D.nx } e2) ∧ ∀ e, I ds.length e → D.nx e
theorem ds_for {ti : DTI} {g : DTG} {tb : DTS} {ts : List Nat} (hp : PassesOwn (model X.prog X.w) X.A X.env X.xe) (hc : X.calm = true) (hi : DI X F tg iter ti) (hg : ∀ F', Sub X.K F' F → DG X F' tg ts g) (hb : ∀ F', Sub X.K F' F → DSs X F' body tb)
    (hs : ∀ x, foldedSetIterable iter X.env x = pure x := by intro _; rfl) : DS X F (.For tg iter body [] pos) (dFor ti g tb) := by
  refine ⟨fun pins s σ H D I q => ?_⟩
  obtain ⟨env, os, r, D', q, w⟩ := q
  -- the frames of the bodies differ: the rule is taken at the union of them
  have hgU : PG X tg (unG X.K F ts g) := ⟨fun pins s σ H v u Q I r ⟨F', sf, h⟩ => (hg F' sf).run pins s σ H v u Q I r h⟩
  have hbU : PSs X body (unS X.K F tb) := ⟨fun pins s σ H D I ⟨F', sf, h⟩ => (hb F' sf).run pins s σ H D I h⟩
  refine (ps_for (pos := pos) hp hc hi hgU hbU hs).run pins s σ H D I ?_
  refine ⟨env, os, r, _, q, fun ds e1 ⟨Iv, i0, it, ie⟩ J os1 H1 g1 hw => ?_⟩
  obtain ⟨G, Y, wk, hG, hY⟩ := hw
  have r1 := g1.r.inn
  have sf : Sub X.K (Fm.here os1 H1 e1) F := g1.r.subF
  refine for_it (g := unG X.K F ts g) (tb := unS X.K F tb) (D := D) wk (fun i σ H => ∃ env os, R X.K (Fm.here os1 H1 e1) os H σ env ∧ Iv i env) ⟨e1, os1, r1, i0⟩ ?_ ?_ ?_
  · rintro i σ H _ ⟨env, os, r, _⟩
    exact hG H fun c o n e => r.keep c o n e
  · rintro i x σ Ha Hb hi ⟨env, os, r, iv⟩ hy
    obtain ⟨d, hd⟩ : ∃ d, ds[i]? = some d := ⟨ds[i], List.getElem?_eq_getElem hi⟩
    obtain ⟨sm, dr⟩ := hY i Ha x Hb d hd hy
    refine ⟨_, sf, env, os, d, r.same sm, dr os r.base r.here, _, it i d env hd iv, fun e2 q2 σ2 _ r2 => ?_⟩
    refine ⟨_, sf, e2, os, r2, _, q2, ⟨fun e q os σ H r => ⟨e, os, r, q⟩, (sf.ends w).rt, (sf.ends w).nx, fun e q os σ H r => ⟨e, os, r, q⟩⟩⟩
  · rintro σ H ⟨env, os, r, iv⟩
    exact w.nx _ (ie env iv) os σ H (sf.r _ _ _ _ r)
/-! ### comprehensions -/
def wipeE (env : Ev) : List Nat → Ev
  | [] => env
  | v :: vs => (wipeE env vs).set v .no
def noAd (env : Ev) (vs : List Nat) : Prop := vs.all (fun v => (adAt env v).isNone) = true
theorem noAd.at_ {env : Ev} {vs : List Nat} (h : noAd env vs) {v : Nat} (m : v ∈ vs) : adAt env v = none := by
  have := List.all_eq_true.mp h v m
  simpa using this
theorem wipeE_len (env : Ev) : ∀ vs, (wipeE env vs).length = env.length
  | [] => rfl
  | v :: vs => by unfold wipeE; rw [List.length_set, wipeE_len env vs]
theorem wipeE_get (env : Ev) {i : Nat} : ∀ vs, i ∉ vs → (wipeE env vs)[i]? = env[i]?
  | [], _ => rfl
  | v :: vs, h => by
    unfold wipeE
    rw [List.getElem?_set_ne fun z => h (by rw [z]; exact List.mem_cons_self)]
    exact wipeE_get env vs fun z => h (List.mem_cons_of_mem _ z)
theorem wipe_get (σ : L2.St) {i : Nat} : ∀ vs, i ∉ vs → (wipe σ vs)[i]? = σ[i]?
  | [], _ => rfl
  | v :: vs, h => by
    unfold wipe
    rw [List.getElem?_set_ne fun z => h (by rw [z]; exact List.mem_cons_self)]
    exact wipe_get σ vs fun z => h (List.mem_cons_of_mem _ z)
theorem wipeE_in (env : Ev) {i : Nat} : ∀ vs, i ∈ vs → i < env.length → (wipeE env vs)[i]? = some .no
  | v :: vs, h, l => by
    unfold wipeE
    by_cases z : v = i
    · subst z
      rw [List.getElem?_set_self (by rw [wipeE_len]; exact l)]
    · rw [List.getElem?_set_ne z]
      exact wipeE_in env vs (by rcases List.mem_cons.mp h with h | h; exact absurd h.symm z; exact h) l
theorem wipe_in (σ : L2.St) {i : Nat} : ∀ vs, i ∈ vs → i < σ.length → (wipe σ vs)[i]? = some none
  | v :: vs, h, l => by
    unfold wipe
    by_cases z : v = i
    · subst z
      rw [List.getElem?_set_self (by rw [wipe_length]; exact l)]
    · rw [List.getElem?_set_ne z]
      exact wipe_in σ vs (by rcases List.mem_cons.mp h with h | h; exact absurd h.symm z; exact h) l
theorem wipeE_ad' {env : Ev} {vs : List Nat} {i : Nat} {a : Addr} (h : adAt (wipeE env vs) i = some a) : adAt env i = some a := by
  by_cases m : i ∈ vs
  · unfold adAt at h
    by_cases l : i < env.length
    · rw [wipeE_in env vs m l] at h; cases h
    · rw [List.getElem?_eq_none (by rw [wipeE_len]; omega)] at h; cases h
  · unfold adAt at h ⊢; rw [wipeE_get env vs m] at h; exact h
theorem wipeE_ad {env : Ev} {vs : List Nat} (n : noAd env vs) (i : Nat) : adAt (wipeE env vs) i = adAt env i := by
  by_cases m : i ∈ vs
  · rw [n.at_ m]
    cases q : adAt (wipeE env vs) i with
    | none => rfl
    | some a => exact absurd (wipeE_ad' q) (by rw [n.at_ m]; simp)
  · unfold adAt; rw [wipeE_get env vs m]
theorem Off.wipe {ts vs : List Nat} {σ σ' : L2.St} (o : Off ts (L2.wipe σ vs) σ') (h : ∀ i ∈ ts, i ∈ vs) : L2.wipe σ' vs = L2.wipe σ vs := by
  apply List.ext_getElem?
  intro i
  by_cases m : i ∈ vs
  · by_cases l : i < σ.length
    · rw [wipe_in σ' vs m (by rw [o.len, wipe_length]; exact l), wipe_in σ vs m l]
    · rw [List.getElem?_eq_none (by rw [wipe_length, o.len, wipe_length]; omega), List.getElem?_eq_none (by rw [wipe_length]; omega)]
  · rw [wipe_get σ' vs m, o.at_ i fun z => m (h i z), wipe_get σ vs m]
section
variable {K : PySem.W.Frag} {σ : L2.St} {os os' : List Addr} {H H' : Hp} {env : Ev} {vs : List Nat}
theorem R.wip (r : R K F os H σ env) : R K F os H (wipe σ vs) (wipeE env vs) := by
  refine ⟨by rw [wipeE_len, wipe_length]; exact r.len, fun i s e => ?_, fun i j a e1 e2 => r.nd i j a (wipeE_ad' e1) (wipeE_ad' e2), fun i a e => r.mem i a (wipeE_ad' e), r.keep, fun i a e => r.new i a (wipeE_ad' e), r.sub, r.here, r.hB, r.osn⟩
  by_cases m : i ∈ vs
  · have l : i < env.length := by
      have := (List.getElem?_eq_some_iff.mp e).1
      rw [wipeE_len] at this
      exact this
    rw [wipeE_in env vs m l] at e
    cases e
    exact ⟨none, wipe_in σ vs m (by rw [← r.len]; exact l), rfl⟩
  · rw [wipeE_get env vs m] at e
    obtain ⟨x, e1, q⟩ := r.sl i s e
    exact ⟨x, by rw [wipe_get σ vs m]; exact e1, q⟩
/-- back from the block -/
theorem R.unwipe (r0 : R K F os H σ env) (n : noAd env vs) {F' : Fm} (r : R K F' os' H' (wipe σ vs) (wipeE env vs)) (hs : Same (hid os H) (hid os' H')) : R K F' os' H' σ env := by
  refine ⟨r0.len, fun i s e => ?_, fun i j a e1 e2 => r.nd i j a (by rw [wipeE_ad n]; exact e1) (by rw [wipeE_ad n]; exact e2), fun i a e => r.mem i a (by rw [wipeE_ad n]; exact e), r.keep, fun i a e => r.new i a (by rw [wipeE_ad n]; exact e), r.sub, r.here, r.hB, r.osn⟩
  by_cases m : i ∈ vs
  · obtain ⟨x, e1, q⟩ := r0.sl i s e
    refine ⟨x, e1, ?_⟩
    have na := n.at_ m
    unfold adAt at na
    rw [e] at na
    cases s with
    | no => exact q
    | dat d => obtain ⟨v, e2, q⟩ := q; exact ⟨v, e2, q.up hs⟩
    | exc a dd ns ds => obtain ⟨e2, vs, e3, l3, q⟩ := q; exact ⟨e2, vs, hs _ _ e3, l3, q.up hs⟩
    | own a ds => cases na
    | bag a => cases na
    | any => trivial
  · obtain ⟨x, e1, q⟩ := r.sl i s (by rw [wipeE_get env vs m]; exact e)
    rw [wipe_get σ vs m] at e1
    exact ⟨x, e1, q⟩
end
def dLc (ti : DTI) (g : DTG) (tt : DTT) (te : DTE) (vs : List Nat) : DTV := fun env Q => ti env fun ds e1 => noAd e1 vs ∧ ds.length ≤ 1000 ∧ ∃ I : Nat → List D → Prop, I 0 [] ∧
  (∀ i d acc, ds[i]? = some d → acc.length ≤ i → I i acc → g d (wipeE e1 vs) fun e2 => (wipeE e2 vs = wipeE e1 vs ∧ noAd e2 vs) ∧ tt e2 fun b e3 => e3 = e2 ∧ if b = true then te e3 fun d' e4 => e4 = e2 ∧ I (i + 1) (acc ++ [d']) else I (i + 1) acc) ∧ ∀ acc, acc.length ≤ ds.length → I ds.length acc → Q (.new acc) e1
def upTs (K : PySem.W.Frag) (F : Fm) (t : DTT) : TT := upT K F t
abbrev DTs (X : Cx) (F : Fm) (ifs : List Expr) (t : DTT) : Prop := PTs X ifs (upT X.K F t)
def dYes : DTT := fun env Q => Q true env
theorem impTs {t t' : TT} {ifs : List Expr} (h : PTs X ifs t) (w : ∀ σ H Q, t' σ H Q → t σ H Q) : PTs X ifs t' := ⟨fun pins s σ H Q I q => h.run pins s σ H Q I (w σ H Q q)⟩
theorem dts_nil : DTs X F [] dYes := impTs pts_nil fun σ H Q ⟨env, os, r, Q', q, w⟩ => w _ _ q os H (Go.refl r)
theorem dts_one {t : DTT} (h : DT X F c t) : DTs X F [c] t := pts_one h
theorem lc_run {K : PySem.W.Frag} {ti : DTI} {g : DTG} {tt : DTT} {te : DTE} {vs ts : List Nat} {σ : L2.St} {H : Hp} {Q : VK} (hts : ∀ i ∈ ts, i ∈ vs) (h : upV K F (dLc ti g tt te vs) σ H Q) :
    tLc (upI K F ti) (unG K F ts g) (unT K F tt) (unE K F te) vs σ H Q := by
  obtain ⟨env, os, r, Q', q, w⟩ := h
  refine ⟨env, os, r, _, q, fun ds e1 ⟨na, hl, Iv, i0, it, ie⟩ J os1 H1 g1 hw D hD => ?_⟩
  obtain ⟨G, Y, wk, hG, hY⟩ := hw
  -- the frame with the new list in it
  have rD := (g1.r.hide (o := .lst []) hD)
  have na' : ∀ i, adAt (wipeE e1 vs) i = adAt e1 i := wipeE_ad na
  let FD : Fm := ⟨upd H1 D (.lst []), D :: ads e1, D :: os1⟩
  have rF : R K FD (D :: os1) (upd H1 D (.lst [])) σ e1 :=
    ⟨rD.len, rD.sl, rD.nd, rD.mem, fun _ _ _ e => e, fun i a e => .inl (List.mem_cons_of_mem _ (mem_ads.mpr ⟨i, e⟩)), fun _ h => h, rD.here, fun b hb => by
      rcases List.mem_cons.mp hb with z | z
      · rw [z]; exact List.mem_cons_self
      · obtain ⟨i, e⟩ := mem_ads.mp z; exact rD.mem i b e, fun _ h => .inl h⟩
  have offD : ∀ i, adAt e1 i ≠ some D := fun i z => g1.r.off hD (g1.r.mem i D z)
  have sub : Sub K FD F := by
    refine ⟨fun os' H' σ' env' q => ⟨q.len, q.sl, q.nd, q.mem, fun c o n e => ?_, fun i a e => ?_, fun a h => q.sub a (List.mem_cons_of_mem _ (g1.r.sub a h)), q.here, r.hB, fun a h => ?_⟩, fun p h => ?_, fun p h => List.mem_cons_of_mem _ (g1.r.sub p h)⟩
    · have e1' := g1.r.keep c o n e
      refine q.keep c o (fun z => ?_) (same_new hD _ _ e1')
      rcases List.mem_cons.mp z with z | z
      · rw [z, hD] at e1'; cases e1'
      · obtain ⟨i, z⟩ := mem_ads.mp z
        rcases g1.r.new i c z with w | w
        · exact n w
        · rw [w] at e; cases e
    · rcases q.new i a e with w | w
      · rcases List.mem_cons.mp w with w | w
        · rw [w]; exact .inr (g1.r.new0 hD)
        · obtain ⟨j, w⟩ := mem_ads.mp w
          exact g1.r.new j a w
      · exact .inr (g1.r.new0 ((same_new (o := .lst []) hD).free w))
    · rcases q.osn a h with w | w
      · rcases List.mem_cons.mp w with w | w
        · rw [w]; exact .inr (g1.r.new0 hD)
        · exact g1.r.osn a w
      · exact .inr (g1.r.new0 ((same_new (o := .lst []) hD).free w))
    · exact g1.r.new0 ((same_new (o := .lst []) hD).free h)
  have toH1 : Same (hid os1 H1) (hid (D :: os1) (upd H1 D (.lst []))) := hid_new hD
  refine lc_it (g := unG K F ts g) (tt := unT K F tt) (te := unE K F te) (vs := vs) (σ := σ) (Qd := fun H => Q (.ref D) H) wk (fun i H => ∃ os acc av, R K FD os H (wipe σ vs) (wipeE e1 vs) ∧ H D = some (.lst av) ∧ DrA K (hid os H) av acc ∧ acc.length ≤ i ∧ Iv i acc) ⟨D :: os1, [], [], rF.wip, upd_same, .nil, Nat.le_refl _, i0⟩ ?_ ?_ ?_
  · rintro i H _ ⟨os, acc, av, r, _⟩
    refine hG H fun c o n e => r.keep c o (fun z => ?_) (same_new hD _ _ e)
    rcases List.mem_cons.mp z with z | z
    · rw [z, hD] at e; cases e
    · exact n z
  · rintro i x Ha Hb hi ⟨os, acc, av, r, hav, da, la, iv⟩ hy
    obtain ⟨d, hd⟩ : ∃ d, ds[i]? = some d := ⟨ds[i], List.getElem?_eq_getElem hi⟩
    obtain ⟨sm, dr⟩ := hY i Ha x Hb d hd hy
    have r' := r.same sm
    have dr' := dr os (toH1.trans r.base) r.here
    have offW : ∀ i, adAt (wipeE e1 vs) i ≠ some D := fun i => by rw [na']; exact offD i
    refine ⟨FD, sub, wipeE e1 vs, os, d, r', dr', _, it i d acc hd la iv, fun e2 ⟨⟨we, na2⟩, q2⟩ σ2 of2 r2 => ⟨of2.wipe hts, FD, sub, e2, os, r2, _, q2, fun b e3 ⟨ee, q3⟩ os3 H3 g3 => ?_⟩⟩
    subst ee
    have wσ := of2.wipe hts
    have offE : ∀ i, adAt e3 i ≠ some D := fun i z => by
      by_cases m : i ∈ vs
      · rw [na2.at_ m] at z; cases z
      · have : adAt (wipeE e3 vs) i = some D := by unfold adAt at z ⊢; rw [wipeE_get e3 vs m]; exact z
        rw [we] at this
        exact offW i this
    have back : ∀ os4 H4, R K FD os4 H4 σ2 e3 → R K FD os4 H4 (wipe σ vs) (wipeE e1 vs) := fun os4 H4 r4 => by
      have z := r4.wip (vs := vs)
      rw [wσ, we] at z
      exact z
    have av3 : H3 D = some (.lst av) := g3.but D _ offE (sm _ _ hav)
    have da3 := (da.up (hid_up sm)).up (g3.hs r2)
    cases b with
    | false => exact iteF ⟨os3, acc, av, back _ _ g3.r, av3, da3, Nat.le_succ_of_le la, by simpa using q3⟩
    | true =>
      have q3' : te e3 fun d' e4 => e4 = e3 ∧ Iv (i + 1) (acc ++ [d']) := by simpa using q3
      refine iteT ⟨FD, sub, e3, os3, g3.r, _, q3', fun d' e4 ⟨ee, q4⟩ y os4 H4 g4 hy4 => ?_⟩
      subst ee
      have av4 : H4 D = some (.lst av) := g4.but D _ offE av3
      have da4 := da3.up (g4.hs g3.r)
      have mD : D ∈ os4 := g4.r.sub D List.mem_cons_self
      have hu : hid os4 (upd H4 D (.lst (av ++ [y]))) = hid os4 H4 := hid_upd mD
      refine ⟨av, av4, ?_, os4, acc ++ [d'], av ++ [y], ?_, upd_same, ?_, ?_, q4⟩
      · have := da4.length
        have h1 : ds.length < sizeLine := small1000 hl
        omega
      · have z := back _ _ g4.r
        refine ⟨z.len, fun j t ej => ?_, z.nd, z.mem, fun c o n q => ?_, z.new, z.sub, fun c hc => ?_, z.hB, z.osn⟩
        · obtain ⟨x', e1', q'⟩ := z.sl j t ej
          refine ⟨x', e1', ?_⟩
          cases t with
          | no => exact q'
          | dat d => obtain ⟨v, e2, q⟩ := q'; exact ⟨v, e2, by rw [hu]; exact q⟩
          | exc a dd ns ds => obtain ⟨e2, vs, e3, l3, q⟩ := q'; exact ⟨e2, vs, by rw [hu]; exact e3, l3, by rw [hu]; exact q⟩
          | own b bs =>
            obtain ⟨e2, ws, e3', q⟩ := q'
            refine ⟨e2, ws, ?_, by rw [hu]; exact q⟩
            rw [upd_ne fun z' => offW j (by unfold adAt; rw [ej, ← z']; rfl)]
            exact e3'
          | bag b =>
            obtain ⟨e2, o, e3', q⟩ := q'
            refine ⟨e2, o, ?_, q⟩
            rw [upd_ne fun z' => offW j (by unfold adAt; rw [ej, ← z']; rfl)]
            exact e3'
          | any => trivial
        · rw [upd_ne fun z' => n (by rw [z']; exact List.mem_cons_self)]
          exact z.keep c o n q
        · by_cases z' : c = D
          · rw [z', upd_same]; simp
          · rw [upd_ne z']; exact z.here c hc
      · rw [hu]
        exact da4.append (.cons hy4 .nil)
      · rw [List.length_append]
        show acc.length + 1 ≤ i + 1
        omega
  · rintro H' ⟨os', acc, av, r', hav, da, la, iv⟩
    have hs : Same (hid os1 H1) (hid os' H') := toH1.trans r'.base
    have rr : R K FD os' H' σ e1 := g1.r.unwipe na r' hs
    have rq := sub.r _ _ _ _ rr
    have gg : Go K F σ os1 H1 e1 os' H' e1 := by
      refine ⟨rq, fun _ => rfl, fun c o n q => ?_, fun c hc => ?_, fun c hc => rr.sub c (List.mem_cons_of_mem _ hc)⟩
      · refine rr.keep c o (fun z => ?_) (same_new hD _ _ q)
        rcases List.mem_cons.mp z with z | z
        · rw [z, hD] at q; cases q
        · obtain ⟨i, z⟩ := mem_ads.mp z
          exact n i z
      · rcases rr.osn c hc with z | z
        · rcases List.mem_cons.mp z with z | z
          · exact .inr (by rw [z]; exact hD)
          · exact .inl z
        · exact .inr ((same_new (o := .lst []) hD).free z)
    refine w _ _ (ie acc la iv) _ os' H' (g1.trans r gg) ⟨D, av, rfl, rr.sub D List.mem_cons_self, offD, g1.r.new0 hD, fun m => g1.r.off hD (g1.r.sub D m), hav, da⟩ fun p e m => ?_
    cases e
    exact g1.r.off hD (g1.sub D m)
end
end DL
namespace DL
open PySem PySem.Spec PyProof.Rows L2 LL
section
variable {X : Cx} {F : Fm} {elt tg iter : Expr} {ifs : List Expr} {scope : Scope} {own : List (Str × Nat)} {pos spos : Pos} {ti : DTI} {g : DTG} {tt : DTT} {te : DTE} {ts : List Nat}
theorem dv_lc (own : List (Str × Nat)) (hc : X.calm = true) (hN : X.N.Nodup) (hi : DI X F tg iter ti) (ok : BlkOk X.N X.env.scope scope own)
    (hg : ∀ F', Sub X.K F' F → ∀ (s : Shared) (H : Hp) (C : Addr) (cl : List (Str × Addr)) (fp : List Addr), DG (X.blk s H scope (compEnvC scope cl C X.env) fp) F' tg ts g)
    (ht : ∀ F', Sub X.K F' F → ∀ (s : Shared) (H : Hp) (C : Addr) (cl : List (Str × Addr)) (fp : List Addr), DTs (X.blk s H scope (compEnvC scope cl C X.env) fp) F' ifs tt)
    (he : ∀ F', Sub X.K F' F → ∀ (s : Shared) (H : Hp) (C : Addr) (cl : List (Str × Addr)) (fp : List Addr), DE (X.blk s H scope (compEnvC scope cl C X.env) fp) F' elt te)
    (hs : ∀ x, foldedSetIterable iter X.env x = pure x := by intro _; rfl) (hts : ∀ i ∈ ts, i ∈ own.map (·.2) := by decide) :
    DV X F (.ListComp elt [⟨tg, iter, ifs, 0⟩] scope pos) (dLc ti g tt te (own.map (·.2))) :=
  imp (pe_lc (g := unG X.K F ts g) (tt := unT X.K F tt) (te := unE X.K F te) hc hN hi ok
    (fun s H C cl fp => ⟨fun pins s1 σ H v u Q I r ⟨F', sf, h⟩ => (hg F' sf s _ C cl fp).run pins s1 σ H v u Q I r h⟩)
    (fun s H C cl fp => ⟨fun pins s1 σ H Q I ⟨F', sf, h⟩ => (ht F' sf s _ C cl fp).run pins s1 σ H Q I h⟩)
    (fun s H C cl fp => ⟨fun pins s1 σ H Q I ⟨F', sf, h⟩ => (he F' sf s _ C cl fp).run pins s1 σ H Q I h⟩) hs) fun σ H Q h => lc_run hts h
theorem ds_ownLc {i : Nat} {y : Str} {py : Pos} (own : List (Str × Nat)) (hc : X.calm = true) (hN : X.N.Nodup) (hi : DI X F tg iter ti) (ok : BlkOk X.N X.env.scope scope own)
    (hg : ∀ F', Sub X.K F' F → ∀ (s : Shared) (H : Hp) (C : Addr) (cl : List (Str × Addr)) (fp : List Addr), DG (X.blk s H scope (compEnvC scope cl C X.env) fp) F' tg ts g)
    (ht : ∀ F', Sub X.K F' F → ∀ (s : Shared) (H : Hp) (C : Addr) (cl : List (Str × Addr)) (fp : List Addr), DTs (X.blk s H scope (compEnvC scope cl C X.env) fp) F' ifs tt)
    (he : ∀ F', Sub X.K F' F → ∀ (s : Shared) (H : Hp) (C : Addr) (cl : List (Str × Addr)) (fp : List Addr), DE (X.blk s H scope (compEnvC scope cl C X.env) fp) F' elt te)
    (hsw : swapsWith (.ListComp elt [⟨tg, iter, ifs, 0⟩] scope pos) (some (.Name y py)) spos.line X.env = pure true := by exact sw_true rfl rfl rfl (by decide +kernel))
    (hy : X.N[i]? = some y := by rfl) (hyl : X.env.scope.names.lookup y = some .local := by rfl) (hs : ∀ x, foldedSetIterable iter X.env x = pure x := by intro _; rfl) (hts : ∀ i ∈ ts, i ∈ own.map (·.2) := by decide) :
    DS X F (.Assign [.Name y py] (.ListComp elt [⟨tg, iter, ifs, 0⟩] scope pos) spos) (dOwn i (dLc ti g tt te (own.map (·.2)))) :=
  impS (ps_setLc (g := unG X.K F ts g) (tt := unT X.K F tt) (te := unE X.K F te) hc hN hy hyl hsw hi ok
    (fun s H C cl fp => ⟨fun pins s1 σ H v u Q I r ⟨F', sf, h⟩ => (hg F' sf s _ C cl fp).run pins s1 σ H v u Q I r h⟩)
    (fun s H C cl fp => ⟨fun pins s1 σ H Q I ⟨F', sf, h⟩ => (ht F' sf s _ C cl fp).run pins s1 σ H Q I h⟩)
    (fun s H C cl fp => ⟨fun pins s1 σ H Q I ⟨F', sf, h⟩ => (he F' sf s _ C cl fp).run pins s1 σ H Q I h⟩) hs) fun D σ H ⟨env, os, r, D', q, w⟩ => by
    refine lc_run (F := F) hts ⟨env, os, r, _, q, fun rv e1 q v os1 H1 g1 hd _ => ?_⟩
    obtain ⟨env', q, r'⟩ := g1.r.store hd q
    exact w.nx _ q os1 _ H1 r'
def dSetLc (i : Nat) (t : DTV) : DTS := fun D env => t env fun rv e1 => rv.rel fun d => D.nx (e1.set i (.dat d))
theorem ds_setLc {i : Nat} {y : Str} {py : Pos} (own : List (Str × Nat)) (hc : X.calm = true) (hN : X.N.Nodup) (hi : DI X F tg iter ti) (ok : BlkOk X.N X.env.scope scope own)
    (hg : ∀ F', Sub X.K F' F → ∀ (s : Shared) (H : Hp) (C : Addr) (cl : List (Str × Addr)) (fp : List Addr), DG (X.blk s H scope (compEnvC scope cl C X.env) fp) F' tg ts g)
    (ht : ∀ F', Sub X.K F' F → ∀ (s : Shared) (H : Hp) (C : Addr) (cl : List (Str × Addr)) (fp : List Addr), DTs (X.blk s H scope (compEnvC scope cl C X.env) fp) F' ifs tt)
    (he : ∀ F', Sub X.K F' F → ∀ (s : Shared) (H : Hp) (C : Addr) (cl : List (Str × Addr)) (fp : List Addr), DE (X.blk s H scope (compEnvC scope cl C X.env) fp) F' elt te)
    (hsw : swapsWith (.ListComp elt [⟨tg, iter, ifs, 0⟩] scope pos) (some (.Name y py)) spos.line X.env = pure true := by exact sw_true rfl rfl rfl (by decide +kernel))
    (hy : X.N[i]? = some y := by rfl) (hyl : X.env.scope.names.lookup y = some .local := by rfl) (hs : ∀ x, foldedSetIterable iter X.env x = pure x := by intro _; rfl) (hts : ∀ i ∈ ts, i ∈ own.map (·.2) := by decide) :
    DS X F (.Assign [.Name y py] (.ListComp elt [⟨tg, iter, ifs, 0⟩] scope pos) spos) (dSetLc i (dLc ti g tt te (own.map (·.2)))) :=
  impS (ps_setLc (g := unG X.K F ts g) (tt := unT X.K F tt) (te := unE X.K F te) hc hN hy hyl hsw hi ok
    (fun s H C cl fp => ⟨fun pins s1 σ H v u Q I r ⟨F', sf, h⟩ => (hg F' sf s _ C cl fp).run pins s1 σ H v u Q I r h⟩)
    (fun s H C cl fp => ⟨fun pins s1 σ H Q I ⟨F', sf, h⟩ => (ht F' sf s _ C cl fp).run pins s1 σ H Q I h⟩)
    (fun s H C cl fp => ⟨fun pins s1 σ H Q I ⟨F', sf, h⟩ => (he F' sf s _ C cl fp).run pins s1 σ H Q I h⟩) hs) fun D σ H ⟨env, os, r, D', q, w⟩ => by
    refine lc_run (F := F) hts ⟨env, os, r, _, q, fun rv e1 q v os1 H1 g1 hd n => ?_⟩
    obtain ⟨d, os2, q2, g2, h2⟩ := g1.rel r hd n q
    exact w.nx _ q2 os2 _ H1 (g2.r.setD h2)
end
/-! ### what is walked: a sequence, a range, two sequences together -/
theorem not_ads {K : PySem.W.Frag} {F : Fm} {os : List Addr} {H : Hp} {σ : L2.St} {env : Ev} (r : R K F os H σ env) {a : Addr} {o : HO} (h : hid os H a = some o) : a ∉ ads env := fun z => by
  obtain ⟨i, z⟩ := mem_ads.mp z
  exact (hid_of h).2 (r.mem i a z)
theorem Wk.at_ {K : PySem.W.Frag} {os os' : List Addr} {H H' : Hp} {xs : List V} {ds : List D} (hd : DrA K (hid os H) xs ds) {i : Nat} {x : V} {d : D} (e : ds[i]? = some d) (e2 : xs[i]? = some x) (s : Same (hid os H) (hid os' H')) : Dr K (hid os' H') x d := by
  obtain ⟨d', e3, q⟩ := hd.get e2
  rw [e] at e3
  cases e3
  exact q.up s
theorem Wk.list {K : PySem.W.Frag} {os : List Addr} {H : Hp} {env : Ev} {a : Addr} {xs : List V} {ds : List D} (hn : H a ≠ none → a ∉ ads env) (h : SqL K H a xs) (hd : DrA K (hid os H) xs ds) : Wk K os H env (Itl K a) ds := by
  refine ⟨fun H => SqL K H a xs, YAt xs, by rw [← hd.length]; exact walk_list, fun H' k => ?_, fun i H1 x H2 d e ⟨e1, e2⟩ => ?_⟩
  · rcases h with (h | ⟨o, h⟩) | h
    · exact .inl (.inl (k a _ (hn (by rw [h]; simp)) h))
    · exact .inl (.inr ⟨o, k a _ (hn (by rw [h]; simp)) h⟩)
    · exact .inr h
  · subst e1
    exact ⟨Same.refl _, fun os' s _ => Wk.at_ hd e e2 s⟩
theorem Wk.tup {K : PySem.W.Frag} {os : List Addr} {H : Hp} {env : Ev} {a : Addr} {xs : List V} {ds : List D} (hn : H a ≠ none → a ∉ ads env) (h : SqT K H a xs) (hd : DrA K (hid os H) xs ds) : Wk K os H env (Itt K a) ds := by
  refine ⟨fun H => SqT K H a xs, YAt xs, by rw [← hd.length]; exact walk_tup, fun H' k => ?_, fun i H1 x H2 d e ⟨e1, e2⟩ => ?_⟩
  · rcases h with (h | ⟨o, h⟩) | h
    · exact .inl (.inl (k a _ (hn (by rw [h]; simp)) h))
    · exact .inl (.inr ⟨o, k a _ (hn (by rw [h]; simp)) h⟩)
    · exact .inr h
  · subst e1
    exact ⟨Same.refl _, fun os' s _ => Wk.at_ hd e e2 s⟩
/-- an own list's contents are lists, and tuples, of the tracked heap -/
theorem own_lst {K : PySem.W.Frag} {F : Fm} {os : List Addr} {H : Hp} {σ : L2.St} {env : Ev} (r : R K F os H σ env) {i : Nat} {a : Addr} (h : adAt env i = some a) : ∃ vs, H a = some (.lst vs) := by
  unfold adAt at h
  cases q : env[i]? with
  | none => rw [q] at h; cases h
  | some s =>
    rw [q] at h
    obtain ⟨x, e1, e2⟩ := r.sl i s q
    cases s with
    | own b ds => cases h; obtain ⟨_, vs, e3, _⟩ := e2; exact ⟨vs, e3⟩
    | bag b => cases h; obtain ⟨_, o, e3, g, m, c, e4, _⟩ := e2; exact ⟨_, by rw [e3, e4]⟩
    | _ => cases h
/-- data do not stand where an own list does, or they are written things -/
theorem data_off {K : PySem.W.Frag} {F : Fm} {os : List Addr} {H : Hp} {σ : L2.St} {env : Ev} (r : R K F os H σ env) {a : Addr} {xs : List V} (h : SqL K (hid os H) a xs ∨ SqT K (hid os H) a xs) : a ∉ ads env ∨ ((∀ H, SqL K H a xs) ∨ ∀ H, SqT K H a xs) := by
  rcases h with ((h | ⟨o, h⟩) | h) | ((h | ⟨o, h⟩) | h)
  · exact .inl (not_ads r h)
  · exact .inl (not_ads r h)
  · exact .inr (.inl fun _ => .inr h)
  · exact .inl (not_ads r h)
  · exact .inl (not_ads r h)
  · exact .inr (.inr fun _ => .inr h)
theorem Wk.listD {K : PySem.W.Frag} {F : Fm} {os : List Addr} {H : Hp} {σ : L2.St} {env : Ev} (r : R K F os H σ env) {a : Addr} {xs : List V} {ds : List D} (h : SqL K (hid os H) a xs) (hd : DrA K (hid os H) xs ds) : Wk K os H env (Itl K a) ds := by
  have w : ∀ (h : ∀ H, SqL K H a xs), Wk K os H env (Itl K a) ds := fun h => ⟨fun _ => True, YAt xs, by rw [← hd.length]; exact walk_list.mono (fun H _ => h H) (fun _ _ _ _ _ _ y => y), fun _ _ => trivial, fun i H1 x H2 d e ⟨e1, e2⟩ => by
    subst e1
    exact ⟨Same.refl _, fun os' s _ => Wk.at_ hd e e2 s⟩⟩
  rcases h with (h | ⟨o, h⟩) | h
  · exact Wk.list (fun _ => not_ads r h) (.inl (.inl (hid_of h).1)) hd
  · exact Wk.list (fun _ => not_ads r h) (.inl (.inr ⟨o, (hid_of h).1⟩)) hd
  · exact w fun _ => .inr h
theorem Wk.tupD {K : PySem.W.Frag} {F : Fm} {os : List Addr} {H : Hp} {σ : L2.St} {env : Ev} (r : R K F os H σ env) {a : Addr} {xs : List V} {ds : List D} (h : SqT K (hid os H) a xs) (hd : DrA K (hid os H) xs ds) : Wk K os H env (Itt K a) ds := by
  have w : ∀ (h : ∀ H, SqT K H a xs), Wk K os H env (Itt K a) ds := fun h => ⟨fun _ => True, YAt xs, by rw [← hd.length]; exact walk_tup.mono (fun H _ => h H) (fun _ _ _ _ _ _ y => y), fun _ _ => trivial, fun i H1 x H2 d e ⟨e1, e2⟩ => by
    subst e1
    exact ⟨Same.refl _, fun os' s _ => Wk.at_ hd e e2 s⟩⟩
  rcases h with (h | ⟨o, h⟩) | h
  · exact Wk.tup (fun _ => not_ads r h) (.inl (.inl (hid_of h).1)) hd
  · exact Wk.tup (fun _ => not_ads r h) (.inl (.inr ⟨o, (hid_of h).1⟩)) hd
  · exact w fun _ => .inr h
section
variable {X : Cx} {F : Fm} {e a b tg : Expr} {p pos tpos : Pos}
/-- an iterator over what e gives, a list or a tuple -/
def iSeq (K : PySem.W.Frag) (tl : TE) : TI := fun σ H R => tl σ H fun x H1 => ∃ a xs, x = .ref a ∧ ((SqL K H1 a xs ∧ R (Itl K a) H1) ∨ (SqT K H1 a xs ∧ R (Itt K a) H1))
theorem pi_seq {l : Expr} {tl : TE} (hl : PE X l tl) : PI X tg l (iSeq X.K tl) := by
  refine ⟨fun pins s σ H R I h => thn (hl.run pins s σ H _ I h) fun v s1 ⟨x, H1, I1, r1, a, xs, e, q1⟩ => ?_⟩
  subst e
  cases r1
  have fp : ∀ b ∈ [s1.heap.objs.size], FpOk X pins H1 b := fun b hb => by
    rw [List.mem_singleton.mp hb]
    exact I1.fpOk (Nat.le_refl _) (I1.hok.fresh (Nat.le_refl _))
  rcases q1 with ⟨hq, q⟩ | ⟨hq, q⟩
  · obtain ⟨its, rv, p, hz⟩ := I1.list hq
    exact wpAny_pyIter_list p.isList ⟨s1.heap.objs.size, [s1.heap.objs.size], _, _, H1, rfl, I1.kept (t' := s1.toks) (fun b o e => Heap.get?_push_of_some _ e), turn_list a _, ⟨_, Heap.get?_push_size _ rfl, rfl, rfl⟩, fp, q⟩
  · obtain ⟨its, rv, p, hz⟩ := I1.tuple hq
    exact wpAny_pyIter_tuple (show s1.heap.IsTuple a its.toArray from p) ⟨s1.heap.objs.size, [s1.heap.objs.size], _, _, H1, rfl, I1.kept (t' := s1.toks) (fun b o e => Heap.get?_push_of_some _ e), turn_tuple a _, ⟨_, Heap.get?_push_size _ rfl, rfl, rfl⟩, fp, q⟩
def Rv.items : Rv → (List D → Prop) → Prop
  | .dat (.lst ds), k => k ds
  | .dat (.tup ds), k => k ds
  | .new ds, k => k ds
  | _, _ => False
def diSeq (t : DTV) : DTI := fun env Q => t env fun rv e1 => rv.items fun ds => Q ds e1
theorem di_seq {t : DTV} (h : DV X F e t) : DI X F tg e (diSeq t) := ⟨fun pins s σ H Rr I ⟨env, os, r, Q', q, w⟩ => (pi_seq (tg := tg) h).run pins s σ H Rr I ⟨env, os, r, _, q, fun rv e1 q v os1 H1 g1 hd _ => by
  cases rv with
  | own a ds => exact q.elim
  | new ds =>
    obtain ⟨p, vs, rfl, m, n, z, o, hp, dd⟩ := hd
    exact ⟨p, vs, rfl, .inl ⟨.inl (.inl hp), w _ _ q _ os1 H1 g1 (Wk.list (fun _ z => by obtain ⟨i, z⟩ := mem_ads.mp z; exact n i z) (.inl (.inl hp)) dd)⟩⟩
  | dat d =>
    cases d with
    | lst ds =>
      cases hd with
      | lst h1 h2 => exact ⟨_, _, rfl, .inl ⟨hid_same.seq h1, w _ _ q _ os1 H1 g1 (Wk.listD g1.r h1 h2)⟩⟩
    | tup ds =>
      cases hd with
      | tup h1 h2 => exact ⟨_, _, rfl, .inr ⟨Same.seqT hid_same h1, w _ _ q _ os1 H1 g1 (Wk.tupD g1.r h1 h2)⟩⟩
    | _ => exact q.elim⟩⟩
/-- lo, lo + 1, .. -/
def rgD (lo : Int) (n : Nat) : List D := (List.range n).map fun i => D.int (lo + ((i : Nat) : Int))
theorem Wk.range {K : PySem.W.Frag} {os : List Addr} {H : Hp} {env : Ev} {lo : Int} {n : Nat} : Wk K os H env (Itr lo n) (rgD lo n) := by
  refine ⟨fun _ => True, YFn fun i => .int (lo + i), by unfold rgD; rw [List.length_map, List.length_range]; exact walk_range, fun _ _ => trivial, fun i H1 x H2 d e ⟨e1, e2⟩ => ?_⟩
  subst e1 e2
  refine ⟨Same.refl _, fun os' s _ => ?_⟩
  unfold rgD at e
  rw [List.getElem?_map] at e
  cases q : (List.range n)[i]? with
  | none => rw [q] at e; cases e
  | some j =>
    rw [q] at e
    cases e
    obtain ⟨l, rfl⟩ := List.getElem?_eq_some_iff.mp q
    rw [List.getElem_range]
    exact .int _
def diRg1 (t : DTA) : DTI := fun env Q => t env fun ds e1 => match ds with
  | [.int j] => -1000000 ≤ j ∧ j ≤ 1000000 ∧ Q (rgD 0 j.toNat) e1
  | _ => False
def diRg2 (t : DTA) : DTI := fun env Q => t env fun ds e1 => match ds with
  | [.int i, .int j] => (-1000000 ≤ i ∧ i ≤ 1000000 ∧ -1000000 ≤ j ∧ j ≤ 1000000) ∧ Q (rgD i (j - i).toNat) e1
  | _ => False
theorem di_rg1 {t : DTA} (hm : X.mg "range" = none) (h : DA X F [a] t) (hg : Gl X "range" := by rfl) (hs : starEach [a] X.env = [(false, eval a X.env)] := by rfl) : DI X F tg (.Call (.Name "range" p) [a] [] pos) (diRg1 t) :=
  ⟨fun pins s σ H Rr I ⟨env, os, r, Q', q, w⟩ => (pi_range1 (tg := tg) hg hm h hs).run pins s σ H Rr I ⟨env, os, r, _, q, fun ds e1 q vs os1 H1 g1 hd => by
    match ds, q, hd with
    | [.int j], ⟨j0, j1, q⟩, .cons (.int _) .nil => exact ⟨j, rfl, by omega, by omega, w _ _ q _ os1 H1 g1 Wk.range⟩⟩⟩
theorem di_rg2 {t : DTA} (hm : X.mg "range" = none) (h : DA X F [a, b] t) (hg : Gl X "range" := by rfl) (hs : starEach [a, b] X.env = [(false, eval a X.env), (false, eval b X.env)] := by rfl) (hs2 : starEach [b] X.env = [(false, eval b X.env)] := by rfl) : DI X F tg (.Call (.Name "range" p) [a, b] [] pos) (diRg2 t) :=
  ⟨fun pins s σ H Rr I ⟨env, os, r, Q', q, w⟩ => (pi_range2 (tg := tg) hg hm h hs hs2).run pins s σ H Rr I ⟨env, os, r, _, q, fun ds e1 q vs os1 H1 g1 hd => by
    match ds, q, hd with
    | [.int i, .int j], ⟨⟨i0, i1, j0, j1⟩, q⟩, .cons (.int _) (.cons (.int _) .nil) => exact ⟨i, j, rfl, by omega, w _ _ q _ os1 H1 g1 Wk.range⟩⟩⟩
end
end DL
/-! operators and built-ins over data -/
namespace DL
open PySem PySem.Spec PyProof.Rows L2 LL
theorem OpR.or {X : Cx} {f : Value → Value → Sem Value} {r r' : R2} (h : OpR X f r) (h' : OpR X f r') : OpR X f (fun x y H Q => r x y H Q ∨ r' x y H Q) := fun pins s σ H x y v u Q I rx ry q => q.elim (h pins s σ H x y v u Q I rx ry) (h' pins s σ H x y v u Q I rx ry)
theorem Lift2.orL {K : PySem.W.Frag} {r r' : R2} {o : Rv → Rv → (Rv → Prop) → Prop} (h : Lift2 K r o) : Lift2 K (fun x y H Q => r x y H Q ∨ r' x y H Q) o := fun F os env σ H v w ra rb Q k a b c d e => .inl (h F os env σ H v w ra rb Q k a b c d e)
section
variable {K : PySem.W.Frag}
variable {F' : Fm} {env' : Ev} {os' : List Addr} {H' : Hp} {v' : V}
theorem hd_int {i : Int} (h : Hd K F' env' os' H' v' (.dat (.int i))) : v' = .int i := by
  have h : Dr K (hid os' H') v' (.int i) := h
  cases h
  rfl
theorem hd_str {i : Str} (h : Hd K F' env' os' H' v' (.dat (.str i))) : v' = .str i := by
  have h : Dr K (hid os' H') v' (.str i) := h
  cases h
  rfl
theorem hd_bl {i : Bool} (h : Hd K F' env' os' H' v' (.dat (.bl i))) : v' = .bl i := by
  have h : Dr K (hid os' H') v' (.bl i) := h
  cases h
  rfl
theorem hd_non (h : Hd K F' env' os' H' v' (.dat .non)) : v' = .non := by
  have h : Dr K (hid os' H') v' .non := h
  cases h
  rfl
theorem hd_tup {ds : List D} (h : Hd K F' env' os' H' v' (.dat (.tup ds))) : ∃ a vs, v' = .ref a ∧ SqT K (hid os' H') a vs ∧ DrA K (hid os' H') vs ds := by
  have h : Dr K (hid os' H') v' (.tup ds) := h
  cases h with
  | tup h1 h2 => exact ⟨_, _, rfl, h1, h2⟩
/-! ### whole numbers -/
def oInt (C : Int → Int → Prop) (g : Int → Int → D) : Rv → Rv → (Rv → Prop) → Prop
  | .dat (.int i), .dat (.int j), k => C i j ∧ k (.dat (g i j))
  | _, _, _ => False
theorem l_int {C : Int → Int → Prop} {gV : Int → Int → V} {g : Int → Int → D} (hg : ∀ i j H, Dr K H (gV i j) (g i j)) : Lift2 K (rI C gV) (oInt C g) := fun F os env σ H v w ra rb Q k r ha hb h q => by
  match ra, rb, h, ha, hb with
  | .dat (.int i), .dat (.int j), ⟨c, h⟩, ha, hb => cases hd_int ha; cases hd_int hb; exact ⟨i, j, rfl, rfl, c, q _ _ os H h (Go.refl r) (hg i j _) trivial⟩
def oInt0 (g : Int → Int → D) : Rv → Rv → (Rv → Prop) → Prop
  | .dat (.int i), .dat (.int j), k => k (.dat (g i j))
  | _, _, _ => False
theorem l_int0 {gV : Int → Int → V} {g : Int → Int → D} (hg : ∀ i j H, Dr K H (gV i j) (g i j)) : Lift2 K (rI0 gV) (oInt0 g) := fun F os env σ H v w ra rb Q k r ha hb h q => by
  match ra, rb, h, ha, hb with
  | .dat (.int i), .dat (.int j), h, ha, hb => cases hd_int ha; cases hd_int hb; exact ⟨i, j, rfl, rfl, q _ _ os H h (Go.refl r) (hg i j _) trivial⟩
abbrev oSub := oInt0 fun i j => .int (i - j)
abbrev oMul := oInt CMulW fun i j => .int (i * j)
abbrev oMod := oInt (fun _ j => j ≠ 0) fun i j => .int (i.fmod j)
abbrev oDiv := oInt (fun _ j => j ≠ 0 ∧ j.natAbs.log2 < 9000) fun i j => .int (i.fdiv j)
abbrev oPow := oInt CPow fun i j => .int (i ^ j.toNat)
abbrev oLt := oInt0 fun i j => .bl (decide (i < j))
abbrev oLe := oInt0 fun i j => .bl (decide (i ≤ j))
abbrev oGt := oInt0 fun i j => .bl (decide (j < i))
abbrev oGe := oInt0 fun i j => .bl (decide (j ≤ i))
/-! ### + -/
def Rv.lis : Rv → (List D → Prop) → Prop
  | .new ds, k => k ds
  | .own _ ds, k => k ds
  | _, _ => False
theorem Hd.lis {F : Fm} {os : List Addr} {H : Hp} {σ : L2.St} {env : Ev} {v : V} {rv : Rv} (r : R K F os H σ env) (h : Hd K F env os H v rv) {k : List D → Prop} (q : rv.lis k) : ∃ a vs ds, v = .ref a ∧ H a = some (.lst vs) ∧ DrA K (hid os H) vs ds ∧ k ds := by
  cases rv with
  | dat d => exact q.elim
  | own a ds =>
    obtain ⟨rfl, i, e⟩ := h
    obtain ⟨x, e1, e2, vs, e3, e4⟩ := r.sl i _ e
    exact ⟨a, vs, ds, rfl, e3, e4, q⟩
  | new ds =>
    obtain ⟨p, vs, rfl, m, n, z, o, hp, w⟩ := h
    exact ⟨p, vs, ds, rfl, hp, w, q⟩
def oAdd : Rv → Rv → (Rv → Prop) → Prop
  | .dat (.int i), .dat (.int j), k => k (.dat (.int (i + j)))
  | .dat (.str x), .dat (.str y), k => x.length + y.length ≤ 1000 ∧ k (.dat (.str (x ++ y)))
  | .dat (.tup as), .dat (.tup bs), k => as.length + bs.length ≤ 1000 ∧ k (.dat (.tup (as ++ bs)))
  | a, b, k => a.lis fun as => b.lis fun bs => as.length + bs.length ≤ 1000 ∧ k (.new (as ++ bs))
def rAddA (K : PySem.W.Frag) : R2 := fun x y H Q => rI0 (fun i j => .int (i + j)) x y H Q ∨ (∃ a b : Str, x = .str a ∧ y = .str b ∧ a.length + b.length ≤ sizeLine ∧ Q (.str (a ++ b)) H) ∨ rCatA K x y H Q ∨ rCat x y H Q
theorem op_addA {X : Cx} : OpR X (binaryOp .Add) (rAddA X.K) := fun pins s σ H x y v u Q I rx ry q => by
  rcases q with q | q | q | q
  · exact op_add pins s σ H x y v u Q I rx ry q
  · exact op_add_str pins s σ H x y v u Q I rx ry q
  · exact op_catA pins s σ H x y v u Q I rx ry q
  · exact op_cat pins s σ H x y v u Q I rx ry q
theorem l_add : Lift2 K (rAddA K) oAdd := fun F os env σ H v w ra rb Q k r ha hb h q => by
  have lst : ∀ (h : ra.lis fun as => rb.lis fun bs => as.length + bs.length ≤ 1000 ∧ k (.new (as ++ bs))), rAddA K v w H Q := fun h => by
    obtain ⟨a, vs, as, rfl, ha, da, h⟩ := ha.lis r h
    obtain ⟨b, ws, bs, rfl, hb, db, l, h⟩ := hb.lis r h
    refine .inr (.inr (.inr ⟨a, b, vs, ws, rfl, rfl, ha, hb, ?_, fun p np => q _ _ _ _ h (Go.hide r np) (r.newL np (da.append db)) ?_⟩))
    · rw [da.length, db.length]; exact Nat.le_of_lt (small1000 l)
    · intro p' e m; cases e; exact r.off np m
  match ra, rb, h, ha, hb with
  | .dat (.int i), .dat (.int j), h, ha, hb => cases hd_int ha; cases hd_int hb; exact .inl ⟨i, j, rfl, rfl, q _ _ os H h (Go.refl r) (Dr.int _) trivial⟩
  | .dat (.str x), .dat (.str y), ⟨l, h⟩, ha, hb => cases hd_str ha; cases hd_str hb; exact .inr (.inl ⟨x, y, rfl, rfl, Nat.le_of_lt (small1000 l), q _ _ os H h (Go.refl r) (Dr.str _) trivial⟩)
  | .dat (.tup as), .dat (.tup bs), ⟨l, h⟩, ha, hb =>
    obtain ⟨a, vs, rfl, h1, h2⟩ := hd_tup ha
    obtain ⟨b, ws, rfl, h3, h4⟩ := hd_tup hb
    refine .inr (.inr (.inl ⟨_, _, _, _, rfl, rfl, Same.seqT hid_same h1, Same.seqT hid_same h3, by rw [h2.length, h4.length]; exact Nat.le_of_lt (small1000 l), fun e => ?_, fun _ e => ?_, fun _ _ p np => ?_⟩))
    · subst e; cases h2; exact q _ _ os H h (Go.refl r) (Dr.tup h3 h4) trivial
    · subst e; cases h4; rw [List.append_nil] at h; exact q _ _ os H h (Go.refl r) (Dr.tup h1 h2) trivial
    · exact q _ _ os _ h (Go.same r (same_new np)) (Dr.tup (.inl (.inl (hid_at upd_same fun m => r.off np m))) ((h2.append h4).up (hid_up (same_new np)))) trivial
  | .new as, rb, h, ha, hb => exact lst h
  | .own a as, rb, h, ha, hb => exact lst h
/-! ### equality of plain data -/
mutual
def D.flatd : D → Bool
  | .lst ds => D.flatds ds
  | .tup ds => D.flatds ds
  | .dct _ _ => false
  | .obj _ _ _ => false
  | _ => true
def D.flatds : List D → Bool
  | [] => true
  | d :: ds => d.flatd && D.flatds ds
end
mutual
theorem Dr.p {H : Hp} : ∀ {v : V} {d : D}, Dr K H v d → d.flatd = true → Dp K H v d.py
  | _, _, .non, _ => .non
  | _, _, .bl b, _ => .bl b
  | _, _, .int i, _ => .int i
  | _, _, .str x, _ => .str x
  | _, _, .lst h r, p => .lst h (DrA.p r p)
  | _, _, .tup h r, p => .tup h (DrA.p r p)
theorem DrA.p {H : Hp} : ∀ {v : List V} {d : List D}, DrA K H v d → D.flatds d = true → DpAll K H v (D.pys d)
  | _, _, .nil, _ => .nil
  | _, _, .cons h r, p => by
    have z := Bool.and_eq_true_iff.mp p
    exact .cons (Dr.p h z.1) (DrA.p r z.2)
end
def eqOk (d : D) : Bool := d.flatd && SeqAt.shaped d.py
def oEq : Rv → Rv → (Rv → Prop) → Prop := fun a b k => a.rd fun d => b.rd fun e => eqOk d = true ∧ eqOk e = true ∧ k (.dat (.bl (PyData.eqv d.py e.py)))
def oNe : Rv → Rv → (Rv → Prop) → Prop := fun a b k => a.rd fun d => b.rd fun e => eqOk d = true ∧ eqOk e = true ∧ k (.dat (.bl (!PyData.eqv d.py e.py)))
theorem l_eq : Lift2 K (rEqD K) oEq := fun F os env σ H v w ra rb Q k r ha hb h q => by
  obtain ⟨d, hd, h⟩ := ha.rd r h
  obtain ⟨e, he, o1, o2, h⟩ := hb.rd r h
  have z1 := Bool.and_eq_true_iff.mp o1
  have z2 := Bool.and_eq_true_iff.mp o2
  exact ⟨_, _, hd.p z1.1, he.p z2.1, z1.2, z2.2, q _ _ os H h (Go.refl r) (Dr.bl _) trivial⟩
theorem l_ne : Lift2 K (rNeD K) oNe := fun F os env σ H v w ra rb Q k r ha hb h q => by
  obtain ⟨d, hd, h⟩ := ha.rd r h
  obtain ⟨e, he, o1, o2, h⟩ := hb.rd r h
  have z1 := Bool.and_eq_true_iff.mp o1
  have z2 := Bool.and_eq_true_iff.mp o2
  exact ⟨_, _, hd.p z1.1, he.p z2.1, z1.2, z2.2, q _ _ os H h (Go.refl r) (Dr.bl _) trivial⟩
/-! ### in -/
def D.flat : D → Bool
  | .non => true
  | .bl _ => true
  | .int _ => true
  | .str _ => true
  | _ => false
def eqF : D → D → Bool
  | .non, .non => true
  | .bl a, .bl b => a == b
  | .bl a, .int b => (if a then 1 else 0) == b
  | .int a, .bl b => a == (if b then 1 else 0)
  | .int a, .int b => a == b
  | .str a, .str b => a == b
  | _, _ => false
def inD (d : D) (ds : List D) : Bool := ds.any fun e => eqF e d
theorem Dr.flatV {H : Hp} {v : V} {d : D} (h : Dr K H v d) : L2.flatV v = d.flat := by cases h <;> rfl
theorem Dr.eqV {H : Hp} {v w : V} {d e : D} (h : Dr K H v d) (g : Dr K H w e) : L2.eqV v w = eqF d e := by cases h <;> cases g <;> rfl
theorem DrA.flats {H : Hp} : ∀ {vs : List V} {ds : List D}, DrA K H vs ds → vs.all L2.flatV = ds.all D.flat
  | _, _, .nil => rfl
  | _, _, .cons h r => by rw [List.all_cons, List.all_cons, h.flatV, DrA.flats r]
theorem DrA.inV {H : Hp} {v : V} {d : D} (h : Dr K H v d) : ∀ {vs : List V} {ds : List D}, DrA K H vs ds → L2.inV v vs = inD d ds
  | _, _, .nil => rfl
  | _, _, .cons g r => by
    have z := DrA.inV h r
    unfold L2.inV inD at z ⊢
    rw [List.any_cons, List.any_cons, g.eqV h, z]
def oIn (neg : Bool) : Rv → Rv → (Rv → Prop) → Prop
  | .dat d, b, k => b.seq fun _ ds => (d.flat = true ∧ ds.all D.flat = true) ∧ k (.dat (.bl (if neg then !inD d ds else inD d ds)))
  | _, _, _ => False
theorem l_in {neg : Bool} : Lift2 K (rIn K neg) (oIn neg) := fun F os env σ H v w ra rb Q k r ha hb h q => by
  match ra, h, ha with
  | .dat d, h, ha =>
    have ha : Dr K (hid os H) v d := ha
    obtain ⟨a, vs, ds, b, rfl, l1, l2, da, ⟨f1, f2⟩, h⟩ := hb.seq r h
    refine ⟨a, vs, rfl, ?_, by rw [ha.flatV]; exact f1, by rw [da.flats]; exact f2, ?_⟩
    · cases b with
      | false => exact .inl (l1 rfl)
      | true => exact .inr (l2 rfl)
    · rw [DrA.inV ha da]
      exact q _ _ os H h (Go.refl r) (Dr.bl _) trivial
/-! ### is None -/
def isNon : D → Bool
  | .non => true
  | _ => false
def oIsN (neg : Bool) : Rv → Rv → (Rv → Prop) → Prop
  | .dat d, .dat .non, k => k (.dat (.bl (if neg then !isNon d else isNon d)))
  | _, _, _ => False
theorem Dr.isNon {H : Hp} {v : V} {d : D} (h : Dr K H v d) : decide (v = .non) = isNon d := by cases h <;> simp [DL.isNon]
theorem l_isN : Lift2 K (fun x y H Q => y = .non ∧ Q (.bl (decide (x = .non))) H) (oIsN false) := fun F os env σ H v w ra rb Q k r ha hb h q => by
  match ra, rb, h, ha, hb with
  | .dat d, .dat .non, h, ha, hb => cases hd_non hb; exact ⟨rfl, by rw [Dr.isNon ha]; exact q _ _ os H h (Go.refl r) (Dr.bl _) trivial⟩
theorem l_notN : Lift2 K (fun x y H Q => y = .non ∧ Q (.bl (!decide (x = .non))) H) (oIsN true) := fun F os env σ H v w ra rb Q k r ha hb h q => by
  match ra, rb, h, ha, hb with
  | .dat d, .dat .non, h, ha, hb => cases hd_non hb; exact ⟨rfl, by rw [Dr.isNon ha]; exact q _ _ os H h (Go.refl r) (Dr.bl _) trivial⟩
/-! ### subscripts -/
def oIx : Rv → Rv → (Rv → Prop) → Prop
  | a, .dat (.int i), k => a.seq fun _ ds => match atI ds i with
    | some d => k (.dat d)
    | none => False
  | _, _, _ => False
theorem DrA.atI {H : Hp} {vs : List V} {ds : List D} (h : DrA K H vs ds) {i : Int} {d : D} (e : L2.atI ds i = some d) : ∃ v, L2.atI vs i = some v ∧ Dr K H v d := by
  unfold L2.atI at e ⊢
  rw [h.length]
  cases q : ixN ds.length i with
  | none => rw [q] at e; cases e
  | some j => rw [q] at e; exact h.put e
theorem l_ix : Lift2 K (rIx K) oIx := fun F os env σ H v w ra rb Q k r ha hb h q => by
  match rb, h, hb with
  | .dat (.int i), h, hb =>
    cases hd_int hb
    obtain ⟨a, vs, ds, b, rfl, l1, l2, da, h⟩ := ha.seq r h
    cases e : L2.atI ds i with
    | none => rw [e] at h; exact h.elim
    | some d =>
      rw [e] at h
      obtain ⟨u, e1, du⟩ := da.atI e
      cases b with
      | false => exact .inl ⟨a, vs, i, u, rfl, rfl, l1 rfl, e1, q _ _ os H h (Go.refl r) du trivial⟩
      | true => exact .inr (.inl ⟨a, vs, i, u, rfl, rfl, l2 rfl, e1, q _ _ os H h (Go.refl r) du trivial⟩)
/-! ### unary minus, len, abs, int, list, tuple, all, any, sorted -/
def oNeg : Rv → (Rv → Prop) → Prop
  | .dat (.int i), k => k (.dat (.int (-i)))
  | _, _ => False
theorem l_neg : Lift1 K (rU fun i => .int (-i)) oNeg := fun F os env σ H v ra Q k r ha h q => by
  match ra, h, ha with
  | .dat (.int i), h, ha => cases hd_int ha; exact ⟨i, rfl, q _ _ os H h (Go.refl r) (Dr.int _) trivial⟩
def oAbs : Rv → (Rv → Prop) → Prop
  | .dat (.int i), k => k (.dat (.int (if i < 0 then -i else i)))
  | _, _ => False
theorem l_abs : Lift1 K (fun v H Q => ∃ i, [v] = [.int i] ∧ Q (.int (if i < 0 then -i else i)) H) oAbs := fun F os env σ H v ra Q k r ha h q => by
  match ra, h, ha with
  | .dat (.int i), h, ha => cases hd_int ha; exact ⟨i, rfl, q _ _ os H h (Go.refl r) (Dr.int _) trivial⟩
def oToInt : Rv → (Rv → Prop) → Prop
  | .dat (.int i), k => k (.dat (.int i))
  | .dat (.bl b), k => k (.dat (.int (if b then 1 else 0)))
  | _, _ => False
theorem l_toInt : Lift1 K (fun v H Q => (∃ i, [v] = [V.int i] ∧ Q (.int i) H) ∨ ∃ k, [v] = [V.bl k] ∧ Q (.int (if k then 1 else 0)) H) oToInt := fun F os env σ H v ra Q k r ha h q => by
  match ra, h, ha with
  | .dat (.int i), h, ha => cases hd_int ha; exact .inl ⟨i, rfl, q _ _ os H h (Go.refl r) (Dr.int _) trivial⟩
  | .dat (.bl b), h, ha => cases hd_bl ha; exact .inr ⟨b, rfl, q _ _ os H h (Go.refl r) (Dr.int _) trivial⟩
def oLen : Rv → (Rv → Prop) → Prop := fun a k => a.seq fun _ ds => k (.dat (.int ds.length))
theorem l_len : Lift1 K (fun v H Q => ∃ p ys, [v] = [V.ref p] ∧ (SqL K H p ys ∨ SqT K H p ys) ∧ Q (.int ys.length) H) oLen := fun F os env σ H v ra Q k r ha h q => by
  obtain ⟨a, vs, ds, b, rfl, l1, l2, da, h⟩ := ha.seq r h
  refine ⟨a, vs, rfl, ?_, by rw [da.length]; exact q _ _ os H h (Go.refl r) (Dr.int _) trivial⟩
  cases b with
  | false => exact .inl (l1 rfl)
  | true => exact .inr (l2 rfl)
def oList : Rv → (Rv → Prop) → Prop := fun a k => a.seq fun _ ds => k (.new ds)
theorem l_list : Lift1 K (fun v H Q => ∃ p ys, [v] = [V.ref p] ∧ (SqL K H p ys ∨ SqT K H p ys) ∧ ∀ l, H l = none → Q (.ref l) (upd H l (.lst ys))) oList := fun F os env σ H v ra Q k r ha h q => by
  obtain ⟨a, vs, ds, b, rfl, l1, l2, da, h⟩ := ha.seq r h
  refine ⟨a, vs, rfl, ?_, fun p np => q _ _ _ _ h (Go.hide r np) (r.newL np da) fun p' e m => by cases e; exact r.off np m⟩
  cases b with
  | false => exact .inl (l1 rfl)
  | true => exact .inr (l2 rfl)
def oTuple : Rv → (Rv → Prop) → Prop := fun a k => a.seq fun _ ds => k (.dat (.tup ds))
theorem l_tuple : Lift1 K (fun v H Q => ∃ p ys, [v] = [V.ref p] ∧ ((SqL K H p ys ∧ ∀ l, H l = none → Q (.ref l) (upd H l (.tup ys))) ∨ (SqT K H p ys ∧ Q (.ref p) H))) oTuple := fun F os env σ H v ra Q k r ha h q => by
  have mk : ∀ {p : Addr} {vs : List V} {ds : List D}, H p = none → DrA K (hid os H) vs ds → k (.dat (.tup ds)) → Q (.ref p) (upd H p (.tup vs)) := fun np da h =>
    q _ _ os _ h (Go.same r (same_new np)) (Dr.tup (.inl (.inl (hid_at upd_same fun m => r.off np m))) (da.up (hid_up (same_new np)))) trivial
  cases ra with
  | dat d =>
    cases d with
    | lst ds =>
      cases ha with
      | lst h1 h2 => exact ⟨_, _, rfl, .inl ⟨hid_same.seq h1, fun l nl => mk nl h2 h⟩⟩
    | tup ds =>
      cases ha with
      | tup h1 h2 => exact ⟨_, _, rfl, .inr ⟨Same.seqT hid_same h1, q _ _ os H h (Go.refl r) (Dr.tup h1 h2) trivial⟩⟩
    | _ => exact h.elim
  | own a ds =>
    obtain ⟨p, vs, ds', rfl, hp, da, h⟩ := ha.lis r (k := fun ds => k (.dat (.tup ds))) h
    exact ⟨_, _, rfl, .inl ⟨SqL.of hp, fun l nl => mk nl da h⟩⟩
  | new ds =>
    obtain ⟨p, vs, ds', rfl, hp, da, h⟩ := ha.lis r (k := fun ds => k (.dat (.tup ds))) h
    exact ⟨_, _, rfl, .inl ⟨SqL.of hp, fun l nl => mk nl da h⟩⟩
end
end DL
/-! a def over data; further built-ins -/
namespace DL
open PySem PySem.Spec PyProof.Rows L2 LL
def Rv.ret : Rv → (D → Prop) → Prop
  | .dat d, k => k d
  | .own _ ds, k => k (.lst ds)
  | .new ds, k => k (.lst ds)
def noS (n : Nat) : Ev := List.replicate n .no
def env0 (N : List Str) (ds : List D) : Ev := ds.map Sl.dat ++ noS (N.length - ds.length)
def envB (b : Addr) (N : List Str) (ds : List D) : Ev := Sl.bag b :: (ds.map Sl.dat ++ noS (N.length - (ds.length + 1)))
section
variable {K : PySem.W.Frag}
theorem adAt_dats {ds : List D} {n i : Nat} : adAt (ds.map Sl.dat ++ noS n) i = none := by
  unfold adAt
  cases q : (ds.map Sl.dat ++ noS n)[i]? with
  | none => rfl
  | some s =>
    have m := List.mem_of_getElem? q
    rcases List.mem_append.mp m with m | m
    · obtain ⟨d, _, e⟩ := List.mem_map.mp m
      rw [← e]
      rfl
    · unfold noS at m
      rw [(List.mem_replicate.mp m).2]
      rfl
theorem sl_dats {os : List Addr} {H : Hp} : ∀ {vs : List V} {ds : List D} {n : Nat}, DrA K (hid os H) vs ds → ∀ (i : Nat) (s : Sl), (ds.map Sl.dat ++ noS n)[i]? = some s → ∃ x : Option V, (vs.map some ++ List.replicate n none)[i]? = some x ∧ SlR K os H s x
  | _, _, n, .nil, i, s, e => by
    have e : (List.replicate n Sl.no)[i]? = some s := e
    rw [List.getElem?_replicate] at e
    split at e
    · rename_i h
      cases e
      exact ⟨none, by show (List.replicate n none)[i]? = _; rw [List.getElem?_replicate, if_pos h], rfl⟩
    · cases e
  | _, _, n, .cons h r, 0, s, e => by
    cases e
    exact ⟨some _, rfl, _, rfl, h⟩
  | _, _, n, .cons h r, i + 1, s, e => sl_dats r i s e
theorem R.start {fr : List Addr} {H : Hp} {N : List Str} {vs : List V} {ds : List D} (hf : ∀ a ∈ fr, H a ≠ none) (h : DrA K (hid fr H) vs ds) : R K ⟨H, [], fr⟩ fr H (L2.start N vs) (env0 N ds) := by
  have hl := h.length
  refine ⟨?_, fun i s e => ?_, fun i j a e _ => ?_, fun i a e => ?_, fun _ _ _ e => e, fun i a e => ?_, fun _ h => h, hf, (fun b hb => by cases hb), fun _ h => .inl h⟩
  · unfold env0 L2.start noS
    simp [hl]
  · unfold env0 at e
    unfold L2.start
    rw [hl]
    exact sl_dats h i s e
  · unfold env0 at e; rw [adAt_dats] at e; cases e
  · unfold env0 at e; rw [adAt_dats] at e; cases e
  · unfold env0 at e; rw [adAt_dats] at e; cases e
theorem adAt_bag {b : Addr} {N : List Str} {ds : List D} {i : Nat} {a : Addr} (h : adAt (envB b N ds) i = some a) : i = 0 ∧ a = b := by
  cases i with
  | zero => cases h; exact ⟨rfl, rfl⟩
  | succ i =>
    have h : adAt (ds.map Sl.dat ++ noS (N.length - (ds.length + 1))) i = some a := h
    rw [adAt_dats] at h
    cases h
theorem R.startB {fr : List Addr} {H : Hp} {N : List Str} {vs : List V} {ds : List D} {b : Addr} (hb : BagAt H b) (hm : b ∈ fr) (hf : ∀ a ∈ fr, H a ≠ none) (h : DrA K (hid fr H) vs ds) : R K ⟨H, [b], fr⟩ fr H (L2.start N (.ref b :: vs)) (envB b N ds) := by
  have hl := h.length
  refine ⟨?_, fun i s e => ?_, fun i j a e1 e2 => ?_, fun i a e => ?_, fun _ _ _ e => e, fun i a e => ?_, fun _ h => h, hf, fun c hc => ?_, fun _ h => .inl h⟩
  · unfold envB L2.start noS
    simp [hl]
  · unfold L2.start
    cases i with
    | zero => cases e; exact ⟨_, rfl, rfl, hb⟩
    | succ i =>
      have := sl_dats h i s e
      rw [List.length_cons, hl]
      exact this
  · rw [(adAt_bag e1).1, (adAt_bag e2).1]
  · rw [(adAt_bag e).2]; exact hm
  · rw [(adAt_bag e).2]; exact .inl List.mem_cons_self
  · rw [List.mem_singleton.mp hc]; exact hm
/-- what is handed back is data to the callers -/
theorem Hd.ret {F : Fm} {σ : L2.St} {os : List Addr} {H : Hp} {env : Ev} {v : V} {rv : Rv} (hf : ∀ a ∈ F.os0, F.H0 a ≠ none) (nb : ∀ (a : Addr) (ds : List D) (i : Nat), env[i]? = some (Sl.own a ds) → a ∉ F.B) (r : R K F os H σ env) (h : Hd K F env os H v rv) {k : D → Prop} (q : rv.ret k) : ∃ d, k d ∧ Dr K (hid F.os0 H) v d := by
  cases rv with
  | dat d => exact ⟨d, q, h.up (hid_sub r.sub)⟩
  | own a ds =>
    obtain ⟨rfl, i, e⟩ := h
    obtain ⟨x, e1, e2, vs, e3, e4⟩ := r.sl i _ e
    have at_ : adAt env i = some a := by unfold adAt; rw [e]; rfl
    refine ⟨_, q, .lst (.inl (.inl (hid_at e3 fun m => ?_))) (e4.up (hid_sub r.sub))⟩
    rcases r.new i a at_ with w | w
    · exact nb a ds i e w
    · exact hf a m w
  | new ds =>
    obtain ⟨p, vs, rfl, m, n, z, o, hp, w⟩ := h
    exact ⟨_, q, .lst (.inl (.inl (hid_at hp o))) (w.up (hid_sub r.sub))⟩
end
section
variable {P : Program} {w : World} {K : PySem.W.Frag} {mg : Str → Option Value} {base : Heap} {x qual : Str} {st : Stmt} {f : Addr} {fd : FuncData} {N ps : List Str} {k n : Nat} {df : DF}
def dEnds (kk : D → Prop) : DEnds := ⟨fun _ => kk .non, fun rv _ => rv.ret kk, fun _ => False, fun _ => False⟩
def bEnds (b : Addr) (kk : D → Prop) : DEnds := ⟨fun e => e[0]? = some (.bag b) ∧ kk .non, fun rv e => e[0]? = some (.bag b) ∧ rv.ret kk, fun _ => False, fun _ => False⟩
theorem ends_d {H : Hp} {fr : List Addr} {Q : VK} {kk : D → Prop} (hf : ∀ a ∈ fr, H a ≠ none) (hq : ∀ d, kk d → ∀ v H', Same H H' → Dr K (hid fr H') v d → Q v H') : EndsR K ⟨H, [], fr⟩ (dEnds kk) { nx := fun _ H' => Q .non H', rt := Q } := by
  refine ⟨fun e q os σ H' r => hq _ q _ _ (fun c o z => r.keep c o (fun z => nomatch z) z) .non, fun rv e q v os σ H' r hd => ?_, fun e q => q.elim, fun e q => q.elim⟩
  obtain ⟨d, k, dr⟩ := hd.ret (F := ⟨H, [], fr⟩) hf (fun _ _ _ _ z => nomatch z) r q
  exact hq d k v H' (fun c o z => r.keep c o (fun z => nomatch z) z) dr
theorem ends_b {H : Hp} {fr : List Addr} {b : Addr} {Q : VK} {kk : D → Prop} (hf : ∀ a ∈ fr, H a ≠ none) (hq : ∀ d, kk d → ∀ v H', But b H H' → BagAt H' b → Dr K (hid fr H') v d → Q v H') : EndsR K ⟨H, [b], fr⟩ (bEnds b kk) { nx := fun _ H' => Q .non H', rt := Q } := by
  have kp : ∀ {os : List Addr} {H' : Hp} {σ : L2.St} {e : Ev}, R K ⟨H, [b], fr⟩ os H' σ e → But b H H' := fun r c o n z => r.keep c o (fun m => n (List.mem_singleton.mp m)) z
  have bg : ∀ {os : List Addr} {H' : Hp} {σ : L2.St} {e : Ev}, R K ⟨H, [b], fr⟩ os H' σ e → e[0]? = some (.bag b) → BagAt H' b := fun r z => by
    obtain ⟨_, _, _, q⟩ := r.sl 0 _ z
    exact q
  refine ⟨fun e q os σ H' r => hq _ q.2 _ _ (kp r) (bg r q.1) .non, fun rv e q v os σ H' r hd => ?_, fun e q => q.elim, fun e q => q.elim⟩
  have nb : ∀ (a : Addr) (ds : List D) (i : Nat), e[i]? = some (Sl.own a ds) → a ∉ ([b] : List Addr) := fun a ds i z m => by
    have h1 : adAt e i = some a := by unfold adAt; rw [z]; rfl
    have h0 : adAt e 0 = some b := by unfold adAt; rw [q.1]; rfl
    rw [List.mem_singleton.mp m] at h1
    have i0 := r.nd i 0 b h1 h0
    subst i0
    rw [q.1] at z
    cases z
  obtain ⟨d, k, dr⟩ := hd.ret (F := ⟨H, [b], fr⟩) hf nb r q.2
  exact hq d k v H' (kp r) (bg r q.1) dr
theorem fn_d (Fn : Fun K x qual st f fd) (S : FnScope N ps (defScope st)) (hn : ps.length = n := by rfl)
    (body : ∀ (X : Cx) (cdv : Value) (A : Around) (out : List Env) (s : Shared) (H : Hp) (E : XK), X = (cxOf CX0 P w K mg base N qual (defScope st) f cdv A out s H E).nox → Room k X.A →
      ∃ t : DTS, (∀ F0, DSs X F0 (defBody st) t) ∧ ∀ ds kk xx, ds.length = n → df ds kk xx → t (dEnds kk) (env0 N ds)) : FnOk P w K mg base CX0 (k + 1) f fd ps (spD K n df) := by
  refine Fn.ok S (fun vs H Q E h => ?_) (fun cdv A out s H vs Q E hr h => ?_)
  · obtain ⟨ds, fr, hl, _⟩ := h
    rw [hl, hn]
  obtain ⟨ds, fr, hl, hf, hd, kk, xx, h, hq, _⟩ := h
  obtain ⟨t, ht, hk⟩ := body _ cdv A out s H E rfl hr
  exact ⟨_, ht ⟨H, [], fr⟩, env0 N ds, fr, R.start hf hd, _, hk ds kk xx (by rw [← hd.length]; exact hl) h, ends_d hf hq⟩
theorem fn_b (Fn : Fun K x qual st f fd) (S : FnScope N ps (defScope st)) (hn : ps.length = n + 1 := by rfl)
    (body : ∀ (X : Cx) (cdv : Value) (A : Around) (out : List Env) (s : Shared) (H : Hp) (E : XK), X = (cxOf CX0 P w K mg base N qual (defScope st) f cdv A out s H E).nox → Room k X.A →
      ∃ t : DTS, (∀ F0, DSs X F0 (defBody st) t) ∧ ∀ b ds kk xx, ds.length = n → df ds kk xx → t (bEnds b kk) (envB b N ds)) : FnOk P w K mg base CX0 (k + 1) f fd ps (spB K n df) := by
  refine Fn.ok S (fun vs H Q E h => ?_) (fun cdv A out s H vs Q E hr h => ?_)
  · obtain ⟨b, us, ds, fr, rfl, hl, _⟩ := h
    rw [List.length_cons, hl, hn]
  obtain ⟨b, us, ds, fr, rfl, hl, hb, hm, hf, hd, kk, xx, h, hq, _⟩ := h
  obtain ⟨t, ht, hk⟩ := body _ cdv A out s H E rfl hr
  exact ⟨_, ht ⟨H, [b], fr⟩, envB b N ds, fr, R.startB hb hm hf hd, _, hk b ds kk xx (by rw [← hd.length]; exact hl) h, ends_b hf hq⟩
theorem fn_x (Fn : Fun K x qual st f fd) (S : FnScope N ps (defScope st)) (hn : ps.length = n := by rfl)
    (body : ∀ (X : Cx) (cdv : Value) (A : Around) (out : List Env) (s : Shared) (H : Hp) (E : XK), X = cxOf (L2.CX P w) P w K mg base N qual (defScope st) f cdv A out s H E → Room k X.A →
      ∀ xx, ∃ t : DTS, (∀ F0, ExR K F0 E xx → DSs X F0 (defBody st) t) ∧ ∀ ds kk, ds.length = n → df ds kk xx → t (dEnds kk) (env0 N ds)) : FnOk P w K mg base (L2.CX P w) (k + 1) f fd ps (spD K n df) := by
  refine Fn.okX S (fun vs H Q E h => ?_) (fun cdv A out s H vs Q E hr h => ?_)
  · obtain ⟨ds, fr, hl, _⟩ := h
    rw [hl, hn]
  obtain ⟨ds, fr, hl, hf, hd, kk, xx, h, hq, hx⟩ := h
  obtain ⟨t, ht, hk⟩ := body _ cdv A out s H E rfl hr xx
  refine ⟨_, ht ⟨H, [], fr⟩ (fun e q σ env os H' r dd H2 vs k1 _ hd2 hl2 dr => ?_), env0 N ds, fr, R.start hf hd, _, hk ds kk (by rw [← hd.length]; exact hl) h, ends_d hf hq⟩
  refine hx e q dd H2 vs (fun c o n z => k1 c o (fun z => nomatch z) (r.keep c o (fun z => nomatch z) z)) (fun b hb => by cases hb) (hid_sub r.sub _ _ hd2) hl2 (dr.up (hid_sub r.sub))
end
end DL
namespace DL
open PySem PySem.Spec PyProof.Rows L2 LL
open AutoSeq1 (wpAny_loadPart')
theorem ext_tup (l b : Addr) (xs ys : Array Value) (n m : Nat) (dd : Option Addr) (sl : Array (Option Value)) (h0 : ¬(!xs.isEmpty && Builtin.List.listTooLong (xs.size + ys.size)) = true) (h1 : xs.size ≤ sizeLine) (h2 : xs.size + ys.size ≤ sizeLine + 1) :
    Meets (Builtin.«list.extend» ⟨[.ref l, .ref b], []⟩) (fun _ R s => (s.heap.get? l = some { cls := .type "list", data := .seq xs n } ∧ s.heap.get? b = some { cls := .type "tuple", dict := dd, data := .seq ys m, slots := sl }) ∧
      R (.ok (.ret Value.none)) { s with heap := s.heap.update l (Obj.mapSeq fun z => z ++ ys) }) := by
  refine .of_wp fun prog w A R s h => ?_
  obtain ⟨hp, g, d, tk, os⟩ := s
  obtain ⟨⟨hl, hb⟩, h⟩ := h
  have e1 := AutoSeq1.idx_int
  have e2 := AutoSeq1.sub_tuple_tuple
  have e3 := AutoSeq1.sub_list_list
  have e4 := AutoSeq1.sub_tuple_list
  have e5 := AutoSeq1.sub_list_tuple
  have hz : (xs ++ ys).size ≤ sizeLine + 1 := by rw [Array.size_append]; exact h2
  wp_walk using (wpAny_updateSeq hl rfl (hz := h1) (_hz' := hz)), wpAny_loadPart' hl, wpAny_loadPart' hb
  exact ⟨_, rfl, h⟩
section
variable {X : Cx}
/-- xs.extend(t), t a tuple or a list -/
def rExtT (K : PySem.W.Frag) : V → List V → Hp → VK → Prop := fun x vs H Q => ∃ l b xs zs, x = .ref l ∧ vs = [.ref b] ∧ H l = some (.lst xs) ∧ SqT K H b zs ∧ xs.length + zs.length ≤ sizeLine ∧ Q .non (upd H l (.lst (xs ++ zs)))
theorem mt_extT : MtM X "list.extend" (rExtT X.K) := by
  intro pins s σ H x vs v us Q I rx rv h
  obtain ⟨l, b, xs, zs, rfl, rfl, hH, hB, hz, q⟩ := h
  cases rx
  obtain ⟨u, rfl, ru⟩ := rv.one
  cases ru
  obtain ⟨z, its, n, r, hl, e⟩ := I.lstM hH
  obtain ⟨its2, r2, ⟨⟨oc, od, odt, osl⟩, e2, hc, n2, hd⟩, _⟩ := I.tuple hB
  simp only at hc hd
  subst hc hd
  have l1 := r.length
  have l2 := r2.length
  have s1 : its.toArray.size + its2.toArray.size ≤ sizeLine := by rw [List.size_toArray, List.size_toArray]; omega
  refine call_meets F.slot_list_extend ⟨_, e, rfl⟩ F.entry_list_extend (F.args_list_extend_2 _ _) (ext_tup l b its.toArray its2.toArray n n2 od osl ?_ (by omega) (by omega)) ⟨⟨e, e2⟩, ?_⟩
  · rw [notLongL s1, Bool.and_false]
    exact Bool.false_ne_true
  · refine ⟨.non, _, I.lset (its' := its ++ its2) hH e (by simp) (r.append r2) ?_, rfl, q⟩
    rw [List.length_append]
    omega
end
end DL
namespace DL
open PySem PySem.Spec PyProof.Rows L2 LL
section
variable {prog : Program} {w : World} {A : Around} {E : Value → Shared → Prop} {s : Shared}
theorem collT {l : Addr} {vs : List Value} {Q : List Value → Shared → Prop} (ht : IsTup s.heap l vs.toArray) (hz : vs.length ≤ sizeLine)
    (h : Q vs { s with heap := (s.heap.push (seqObj "list" #[] 0)).update s.heap.objs.size (Obj.mapSeq (· ++ vs.toArray)) }) : wpAny (model prog w) A (collect (.ref l)) Q E s := by
  obtain ⟨o, ho, hc, n, hd⟩ := ht
  unfold collect
  refine wpAny_bind (wpAny_runValue (codeAny_builtin F.entry_proto_collect (wpAny_bind (wpAny_newList (wpAny_pure ?_)))))
  refine ⟨Code.quiet_builtin _ (by decide +kernel), codeAny_builtin F.entry_list_iadd ?_⟩
  show wpAny _ _ (Builtin.List.listExtendWith (.ref s.heap.objs.size) (.ref l) (.ref s.heap.objs.size)) _ _ { s with heap := s.heap.push (seqObj "list" #[] 0) }
  unfold Builtin.List.listExtendWith
  have h1 : (s.heap.push (seqObj "list" #[] 0)).get? l = some o := Heap.get?_push_of_some _ ho
  have ns : (s.heap.push (seqObj "list" #[] 0)).get? s.heap.objs.size = some (seqObj "list" #[] 0) := Heap.get?_push_size _ rfl
  refine wpAny_bind (wpAny_typeOf (T := "tuple") ⟨o, h1, hc⟩ ?_)
  rw [if_pos (by simp)]
  refine wpAny_bind (listItems_at h1 hd (wpAny_bind (listItems_at (xs := #[]) (n := 0) ns rfl ?_)))
  rw [if_neg (by simp)]
  refine wpAny_bind (listUpdate_at (xs := #[]) (n := 0) ns rfl (wpAny_pure ?_) (Nat.zero_le _) ?_)
  · refine wpAny_bind (wpAny_load (get?_update_seq ns _) ?_)
    have e : ((#[] : Array Value) ++ vs.toArray).toList = vs := by simp
    show wpAny _ _ (pure ((#[] : Array Value) ++ vs.toArray).toList) _ _ _
    rw [e]
    exact wpAny_pure h
  · show ((#[] : Array Value) ++ vs.toArray).size ≤ sizeLine + 1
    rw [Array.size_append, List.size_toArray]
    show 0 + vs.length ≤ _
    omega
theorem sortT {l : Addr} {vs : List Value} {ns : List Int} {Q : Value → Shared → Prop} (ht : IsTup s.heap l vs.toArray) (hI : IntsAre vs ns) (hL : vs.length ≤ sizeLine)
    (h : ∀ (out : Array Value) (ns' : List Int), IntsAre out.toList ns' → ns'.Perm ns → ns'.Pairwise (· ≤ ·) → Q (.ref (s.heap.objs.size + 1)) { s with heap := sortedAll s.heap vs out }) : wpAny (model prog w) A (call (.builtin "sorted") [.ref l]) Q E s := by
  refine call_function_entry_kw kind_sorted plain_sorted entry_sorted (args_sorted1 _) ?_
  unfold Builtin.«sorted»
  refine wpAny_bind (m := checkCount "sorted" 1 1 _) (wpAny_pure (wpAny_bind (collT ht hL (wpAny_bind (wpAny_newList ?_ hL)))))
  have hz : ((s.heap.push (seqObj "list" #[] 0)).update s.heap.objs.size (Obj.mapSeq (· ++ vs.toArray))).objs.size = s.heap.objs.size + 1 := by rw [Heap.size_update, size_push']
  show wpAny _ _ _ _ _ { s with heap := PySem.W.copyHeap s.heap vs }
  rw [hz]
  refine wpAny_bind (wpAny_holding (wpAny_call_entry_kw slot_list_sort ⟨_, PySem.W.copyHeap_at s.heap vs, rfl⟩ entry_list_sort ?_ (args_list_sort _)))
  refine list_sort_treeAny (s := { s with heap := PySem.W.copyHeap s.heap vs }) (PySem.W.copyHeap_at s.heap vs) hI hL fun out ns' h1 h2 h3 => ⟨_, rfl, wpAny_pure ⟨_, rfl, h out ns' h1 h2 h3⟩⟩
end
section
variable {X : Cx}
/-- sorted(xs) of ints, a list or a tuple -/
def rSortA (K : PySem.W.Frag) : List V → Hp → VK → Prop := fun vs H Q => ∃ (a : Addr) (ns : List Int), vs = [V.ref a] ∧ (SqL K H a (ns.map V.int) ∨ SqT K H a (ns.map V.int)) ∧
  ∀ (ms : List Int) (p : Addr), ms.Perm ns → ms.Pairwise (· ≤ ·) → H p = none → Q (.ref p) (upd H p (.lst (ms.map V.int)))
theorem cr_sortA : CallR X (.builtin "sorted") (rSortA X.K) := by
  intro pins s σ H vs us Q I r h
  obtain ⟨a, ns, rfl, hs, q⟩ := h
  rcases hs with hs | hs
  · exact cr_sortedI pins s σ H _ us Q I r ⟨a, ns, rfl, hs, q⟩
  obtain ⟨its, rv, hl, hz⟩ := I.tuple hs
  rw [Vals.ref1 r]
  refine sortT hl rv.ints (by rw [← rv.length]; exact hz) fun out ms h1 h2 h3 => ?_
  obtain ⟨ep, he⟩ := PyProof.Rows.sortedAll_at s.heap its out
  have hlen : (ms.map V.int).length ≤ sizeLine := by
    rw [List.length_map, h2.length_eq]
    rw [List.length_map] at hz
    exact hz
  have he' : (sortedAll s.heap its out).get? (s.heap.objs.size + 1) = some { cls := .type "list", data := .seq out.toList.toArray ep } := by
    rw [he]
  exact ⟨.ref _, upd H (s.heap.objs.size + 1) (.lst (ms.map V.int)), I.laid (t' := s.toks) (fun _ _ => PyProof.Rows.sortedAll_old) (Nat.le_succ _) ⟨hlen, out.toList, ep, vals_of_ints h1, he'⟩, rfl, q _ _ h2 h3 (I.hok.fresh (Nat.le_succ _))⟩
end
end DL
/-! enumerate(t), t a tuple -/
namespace DL
open PySem PySem.Spec PyProof.Rows L2 LL
open AutoSeq1 (wpAny_loadPart')
def enO (a : Addr) : Obj := { cls := .type "tuple_iterator", data := .fields #[.ref a, .int 0 0] }
theorem en_new (t : Addr) (its : Array Value) :
    Meets (Builtin.«enumerate.__new__» ⟨[.type "enumerate", .ref t], []⟩) (fun _ R s => s.heap.IsTuple t its ∧
      R (.ok (.ret (.ref (s.heap.push (enO t)).objs.size))) { s with heap := (s.heap.push (enO t)).push { cls := .type "enumerate", data := .fields #[.none, .bool false, .ref s.heap.objs.size, rawInt 0, .none, .none] } }) := by
  refine .of_wp fun prog w A R s h => ?_
  obtain ⟨hp, g, d, tk, os⟩ := s
  obtain ⟨ht, h⟩ := h
  obtain ⟨o, hl, hc, n, hd⟩ := id ht
  have hsub := sub_enumerate
  have q1 : ∀ {A' : Around} {E : Value → Shared → Prop} {Q : Value → Shared → Prop}, Q (.ref hp.objs.size) ⟨hp.push (enO t), g, d, tk, os⟩ → wpAny (model prog w) A' (pyIter (.ref t)) Q E ⟨hp, g, d, tk, os⟩ := fun q => wpAny_pyIter_tuple ht q
  wp_walk using wpAny_loadPart' hl
  refine wpAny_stack_any fun st => wpAny_pure ?_
  split
  · rename_i c _ _ _ _ _
    cases (c == Value.type "enumerate") <;> (wp_walk using wpAny_loadPart' hl, q1; exact ⟨_, rfl, h⟩)
  · wp_walk using wpAny_loadPart' hl, q1
    exact ⟨_, rfl, h⟩
section
variable {prog : Program} {w : World} {A : Around} {E : Value → Shared → Prop} {s : Shared}
theorem en_call {t : Addr} {its : Array Value} {Q : Value → Shared → Prop} (ht : s.heap.IsTuple t its)
    (h : ∀ h', IsEnum h' (s.heap.objs.size + 1) s.heap.objs.size 0 .none → h'.IsTupleIter s.heap.objs.size t 0 → (∀ b o, s.heap.get? b = some o → h'.get? b = some o) → Q (.ref (s.heap.objs.size + 1)) { s with heap := h' }) :
    wpAny (model prog w) A (call (.type "enumerate") [.ref t]) Q E s := by
  refine callType_new F.called_enumerate (by decide) (F.typeCall_enumerate_1 _) (F.newCall_enumerate_1 _) (fun obj => F.args_object_init_2 obj _) F.entry_enumerate_new (en_new t its) ⟨ht, ?_⟩
  have hz : (s.heap.push (enO t)).objs.size = s.heap.objs.size + 1 := Heap.size_push ..
  show _ ∧ _
  rw [hz]
  have he : IsEnum ((s.heap.push (enO t)).push { cls := .type "enumerate", data := .fields #[.none, .bool false, .ref s.heap.objs.size, rawInt 0, .none, .none] }) (s.heap.objs.size + 1) s.heap.objs.size 0 .none := by
    have z := Heap.get?_push_size (s.heap.push (enO t)) (o := { cls := .type "enumerate", data := .fields #[.none, .bool false, .ref s.heap.objs.size, rawInt 0, .none, .none] }) rfl
    rw [hz] at z
    exact z
  exact ⟨⟨_, he, rfl⟩, h _ he ⟨_, Heap.get?_push_of_some _ (Heap.get?_push_size _ rfl), rfl, rfl⟩ fun b o q => Heap.get?_push_of_some _ (Heap.get?_push_of_some _ q)⟩
end
/-- the tuple at a, each item in a new pair with its number -/
def ItE (K : PySem.W.Frag) (a : Addr) : It :=
  ⟨fun i H => ∃ (xs : List V) (x : V), SqT K H a xs ∧ xs[i]? = some x, fun i H v H' => ∃ T x, v = .ref T ∧ H T = none ∧ H' = upd H T (.tup [.int (i : Nat), x]) ∧ ∀ xs, SqT K H a xs → xs[i]? = some x, fun i H => ∃ xs : List V, SqT K H a xs ∧ i = xs.length⟩
theorem turn_E {P : Program} {w : World} {K : PySem.W.Frag} {elts : List Expr} {kk : Nat} {tpos : Pos} (a e it : Addr) :
    Turn P w K (.Tuple elts kk tpos) (ItE K a) [e, it] e (fun i h => ((∃ old, IsEnum h e it ((i : Nat) : Int) old) ∧ h.IsTupleIter it a i) ∧ e ≠ it ∧ a ≠ it ∧ a ≠ e) where
  mem := List.mem_cons_self
  obj := fun i h st b hb => by
    obtain ⟨⟨⟨old, he⟩, ⟨o, ho, hc, hd⟩⟩, _⟩ := st
    rcases List.mem_cons.mp hb with z | z
    · rw [z]; exact ⟨_, he, fun v q => nomatch q⟩
    · rw [List.mem_singleton.mp z]; exact ⟨o, ho, fun v q => by rw [hd] at q; cases q⟩
  keep := fun i h h' st k => ⟨⟨st.1.1.elim fun old he => ⟨old, k e List.mem_cons_self _ he⟩, st.1.2.at fun o q => k it (List.mem_cons_of_mem _ List.mem_cons_self) o q⟩, st.2⟩
  item := by
    intro X hP hw hK hc i pins s σ H E I hf st hg
    subst hP hw hK
    obtain ⟨⟨⟨old, he⟩, hit⟩, hne, hni, hnx⟩ := st
    obtain ⟨xs, x, hq, hx⟩ := hg
    obtain ⟨its, rv, p, hz⟩ := I.tuple hq
    have el : e < s.heap.objs.size := Heap.lt_size he
    have il : it < s.heap.objs.size := by obtain ⟨_, q, _⟩ := hit; exact Heap.lt_size q
    have lx : i < its.toArray.size := by
      have := (List.getElem?_eq_some_iff.mp hx).1
      rw [List.size_toArray, ← rv.length]
      exact this
    refine wpAny_pyNext_enum_itemD (Draws.tuple (A := X.A.in1) (I.ok.hd hc) it a hni its.toArray) he ⟨hit, p⟩ lx hne (fun m => ?_) fun y h' tk hP ho hs' hT hsz hk => ?_
    · rcases List.mem_cons.mp m with z | z
      · exact hne z
      · exact hnx (List.mem_singleton.mp z).symm
    obtain ⟨u, hu, ru⟩ := rv.get hx
    have eu : y = u := by
      have hP' : its.toArray[i]? = some y := hP
      rw [show its.toArray[i]? = some u by simpa using hu] at hP'
      exact (Option.some.inj hP').symm
    subst eu
    refine ⟨_, rfl, wpAny_letOwnedTupleGo_enum (s := { s with heap := h', toks := tk + 1 }) ho fun h2 he2 sb => ?_⟩
    have hT2 : h2.get? s.heap.objs.size = some { cls := .type "tuple", data := .seq #[.int i tk, y] } := (sb.2 _ (Nat.ne_of_gt el)).trans hT
    have new : ObjOk X.prog X.w (upd H s.heap.objs.size (.tup [.int (i : Nat), x])) h2 s.heap.objs.size (.tup [.int (i : Nat), x]) := ⟨by show 2 ≤ sizeLine; decide, [.int i tk, y], .cons ⟨_, rfl⟩ (.cons ru .nil), ⟨_, hT2, rfl, _, rfl⟩⟩
    have I1 : Inv X pins σ (upd H s.heap.objs.size (.tup [.int (i : Nat), x])) { s with heap := h2, toks := tk + 1 } :=
      I.turnedNew (ch := [e, it]) (fun b ob hb q => (sb.2 b fun z => hb (by simp [z])).trans (hk b ob (fun z => hb (by simp [z])) (fun z => hb (by simp [z])) q)) hf (Nat.le_refl _) new
    refine ⟨.ref s.heap.objs.size, _, I1, rfl, ⟨_, x, rfl, I.hok.fresh (Nat.le_refl _), rfl, fun ys hy => by rw [I.tuple_inj hy hq]; exact hx⟩, ⟨⟨⟨y, ?_⟩, hs'.1.at fun o q => (sb.2 it (Ne.symm hne)).trans q⟩, hne, hni, hnx⟩, fun b hb => ?_⟩
    · rw [show ((i + 1 : Nat) : Int) = (i : Int) + 1 by omega]
      exact he2
    · have lb : b < s.heap.objs.size := by
        rcases List.mem_cons.mp hb with z | z
        · rw [z]; exact el
        · rw [List.mem_singleton.mp z]; exact il
      rw [upd_ne (Nat.ne_of_lt lb)]
      exact (hf b hb).1
  done := by
    intro X hP hw hK hc i pins s σ H E I hf st hg
    subst hP hw hK
    obtain ⟨⟨⟨old, he⟩, hit⟩, hne, hni, hnx⟩ := st
    obtain ⟨xs, hq, hx⟩ := hg
    obtain ⟨its, rv, p, hz⟩ := I.tuple hq
    obtain ⟨f0, f1, f2, f3, f4, f5⟩ := hf it (List.mem_cons_of_mem _ List.mem_cons_self)
    have hn : i = its.toArray.size := by rw [hx, List.size_toArray]; exact rv.length
    exact wpAny_pyNext_enum_endD (Draws.tuple (A := X.A.in1) (I.ok.hd hc) it a hni its.toArray) he (by rw [← hn]; exact ⟨hit, p⟩) fun h' eb => ⟨rfl, I.turned (t' := s.toks) (fun b o hb q => eb b o hb q) f0 f1 f3 f4 f5⟩
  self := fun A i s Q E st h => st.1.1.elim fun _ he => wpAny_pyIter_enum he h
theorem walk_E {K : PySem.W.Frag} {a : Addr} {xs : List V} : Walk (ItE K a) xs.length (fun H => SqT K H a xs) (YPair (fun i => some (.int (i : Nat))) (fun i => xs[i]?)) := by
  refine ⟨fun i _ hi q => ⟨xs, xs[i], q, by simp [hi]⟩, fun _ q => ⟨xs, q, rfl⟩, fun i H v H' _ q y => ?_⟩
  obtain ⟨T, x, h1, h2, h3, h4⟩ := y
  exact ⟨T, .int (i : Nat), x, h1, h2, h3, rfl, h4 xs q⟩
def iEnT (K : PySem.W.Frag) (ta : TE) : TI := fun σ H R => ta σ H fun v H1 => ∃ a xs, [v] = [V.ref a] ∧ SqT K H1 a xs ∧ R (ItE K a) H1
theorem pi_enT {X : Cx} {e : Expr} {ta : TE} {p pos tpos : Pos} {elts : List Expr} {kk : Nat} (hg : Gl X "enumerate") (hm : X.mg "enumerate" = none) (ha : PE X e ta) (hs : starEach [e] X.env = (false, eval e X.env) :: starEach [] X.env := by rfl) :
    PI X (.Tuple elts kk tpos) (.Call (.Name "enumerate" p) [e] [] pos) (iEnT X.K ta) := by
  refine ⟨fun pins s σ H R I h => Call_ (ld_blt I hg hm boot_enumerate (PyProof.Rows.callWith_type1 (thn ((pa_cons ha pa_nil hs).run pos pins s σ H (fun vs H1 => ∃ a xs, vs = [.ref a] ∧ SqT X.K H1 a xs ∧ R (ItE X.K a) H1) I h) fun us s1 ⟨vs, H1, I1, r1, q1⟩ => ?_) hs rfl))⟩
  obtain ⟨a, xs, ex, hq, q⟩ := q1
  subst ex
  rw [Vals.ref1 r1]
  obtain ⟨its, rv, p', hz⟩ := I1.tuple hq
  have al : a < s1.heap.objs.size := by obtain ⟨_, z, _⟩ := p'; exact Heap.lt_size z
  refine en_call (show s1.heap.IsTuple a its.toArray from p') fun h' he hit hk => wpAny_pyIter_enum he ?_
  have I2 : Inv X pins σ H1 { s1 with heap := h' } := I1.kept (t' := s1.toks) hk
  refine ⟨s1.heap.objs.size + 1, [s1.heap.objs.size + 1, s1.heap.objs.size], _, _, H1, rfl, I2, turn_E a (s1.heap.objs.size + 1) s1.heap.objs.size, ⟨⟨⟨.none, he⟩, hit⟩, Nat.succ_ne_self _, Nat.ne_of_lt al, Nat.ne_of_lt (Nat.lt_succ_of_lt al)⟩, fun b hb => ?_, q⟩
  have hle : s1.heap.objs.size ≤ b := by
    rcases List.mem_cons.mp hb with z | z
    · rw [z]; exact Nat.le_add_right _ _
    · rw [List.mem_singleton.mp z]; exact Nat.le_refl _
  exact I1.fpOk hle (I1.hok.fresh hle)
end DL
namespace DL
open PySem PySem.Spec PyProof.Rows L2 LL
section
variable {K : PySem.W.Frag}
def intsOf : List D → Option (List Int)
  | [] => some []
  | .int i :: ds => (intsOf ds).map (i :: ·)
  | _ :: _ => none
def boolsOf : List D → Option (List Bool)
  | [] => some []
  | .bl i :: ds => (boolsOf ds).map (i :: ·)
  | _ :: _ => none
theorem DrA.ints {H : Hp} : ∀ {vs : List V} {ds : List D} {ns : List Int}, DrA K H vs ds → intsOf ds = some ns → vs = ns.map V.int
  | _, _, _, .nil, e => by cases e; rfl
  | _, _, ns, .cons (d := d) (ds := ds) h r, e => by
    cases d with
    | int i =>
      unfold intsOf at e
      cases q : intsOf ds with
      | none => rw [q] at e; cases e
      | some ms =>
        rw [q] at e
        cases e
        cases h
        rw [DrA.ints r q]
        rfl
    | _ => cases e
theorem DrA.bools {H : Hp} : ∀ {vs : List V} {ds : List D} {ns : List Bool}, DrA K H vs ds → boolsOf ds = some ns → vs = ns.map V.bl
  | _, _, _, .nil, e => by cases e; rfl
  | _, _, ns, .cons (d := d) (ds := ds) h r, e => by
    cases d with
    | bl i =>
      unfold boolsOf at e
      cases q : boolsOf ds with
      | none => rw [q] at e; cases e
      | some ms =>
        rw [q] at e
        cases e
        cases h
        rw [DrA.bools r q]
        rfl
    | _ => cases e
theorem intsOf_map : ∀ ns : List Int, intsOf (ns.map D.int) = some ns
  | [] => rfl
  | n :: ns => by
    show (intsOf (ns.map D.int)).map (n :: ·) = _
    rw [intsOf_map ns]
    rfl
theorem boolsOf_map : ∀ ns : List Bool, boolsOf (ns.map D.bl) = some ns
  | [] => rfl
  | n :: ns => by
    show (boolsOf (ns.map D.bl)).map (n :: ·) = _
    rw [boolsOf_map ns]
    rfl
theorem DrA.ofInts {H : Hp} : ∀ ns : List Int, DrA K H (ns.map V.int) (ns.map D.int)
  | [] => .nil
  | n :: ns => .cons (.int n) (DrA.ofInts ns)
def sortI (ns : List Int) : List Int := ns.mergeSort (fun x y => decide (x ≤ y))
def oSorted : Rv → (Rv → Prop) → Prop := fun a k => a.seq fun _ ds => match intsOf ds with
  | some ns => k (.new ((sortI ns).map D.int))
  | none => False
theorem l_sorted : Lift1 K (fun v => rSortA K [v]) oSorted := fun F os env σ H v ra Q k r ha h q => by
  obtain ⟨a, vs, ds, b, rfl, l1, l2, da, h⟩ := ha.seq r h
  cases e : intsOf ds with
  | none => rw [e] at h; exact h.elim
  | some ns =>
    rw [e] at h
    have ev := da.ints e
    subst ev
    refine ⟨a, ns, rfl, ?_, fun ms p pm so np => ?_⟩
    · cases b with
      | false => exact .inl (l1 rfl)
      | true => exact .inr (l2 rfl)
    · have em : ms = sortI ns := PySem.W.os_sorted_mergeSort pm so
      rw [em]
      exact q _ _ _ _ h (Go.hide r np) (r.newL np (DrA.ofInts _)) fun p' e m => by cases e; exact r.off np m
def oAll (f : List Bool → Bool) : Rv → (Rv → Prop) → Prop := fun a k => a.lis fun ds => match boolsOf ds with
  | some bs => k (.dat (.bl (f bs)))
  | none => False
theorem l_all : Lift1 K (fun v => rAll K [v]) (oAll fun bs => bs.all id) := fun F os env σ H v ra Q k r ha h q => by
  obtain ⟨a, vs, ds, rfl, hl, da, h⟩ := ha.lis r h
  cases e : boolsOf ds with
  | none => rw [e] at h; exact h.elim
  | some bs =>
    rw [e] at h
    have ev := da.bools e
    subst ev
    exact ⟨a, bs, rfl, SqL.of hl, q _ _ os H h (Go.refl r) (Dr.bl _) trivial⟩
theorem l_any : Lift1 K (fun v => rAny K [v]) (oAll fun bs => bs.any id) := fun F os env σ H v ra Q k r ha h q => by
  obtain ⟨a, vs, ds, rfl, hl, da, h⟩ := ha.lis r h
  cases e : boolsOf ds with
  | none => rw [e] at h; exact h.elim
  | some bs =>
    rw [e] at h
    have ev := da.bools e
    subst ev
    exact ⟨a, bs, rfl, SqL.of hl, q _ _ os H h (Go.refl r) (Dr.bl _) trivial⟩
def oStr : Rv → (Rv → Prop) → Prop
  | .dat (.int i), k => i.natAbs.log2 < 1920 ∧ k (.dat (.str (toString i)))
  | _, _ => False
theorem l_str : Lift1 K (fun v H Q => ∃ i, [v] = [V.int i] ∧ i.natAbs.log2 < 1920 ∧ Q (.str (toString i)) H) oStr := fun F os env σ H v ra Q k r ha h q => by
  match ra, h, ha with
  | .dat (.int i), ⟨l, h⟩, ha => cases hd_int ha; exact ⟨i, rfl, l, q _ _ os H h (Go.refl r) (Dr.str _) trivial⟩
/-! ### isinstance(e, T) -/
def tyD : D → Option String
  | .non => some "NoneType" | .bl _ => some "bool" | .int _ => some "int" | .str _ => some "str" | .lst _ => some "list" | .tup _ => some "tuple" | .dct _ _ => some "dict" | .obj _ _ _ => none
theorem Dr.ty {H : Hp} {v : V} {d : D} {n : String} (h : Dr K H v d) (e : tyD d = some n) : TyX K H v (.type n) := by
  cases h with
  | non => cases e; exact .base .non
  | bl b => cases e; exact .base (.bl b)
  | int i => cases e; exact .base (.int i)
  | str x => cases e; exact .base (.str x)
  | lst h r =>
    cases e
    rcases h with (h | ⟨o, h⟩) | ⟨o, its, n, hk, hc, _⟩
    · exact .base (.lst h)
    · exact .base (.frz h)
    · exact .kList hk hc
  | tup h r =>
    cases e
    rcases h with (h | ⟨o, h⟩) | ⟨o, its, n, hk, hc, _⟩
    · exact .base (.tup h)
    · exact .fTuple h
    · exact .kTuple hk hc
  | dct h r => cases e; exact .base (.dK h)
  | obj h l r => cases e
def oIsi (T : String) : Rv → (Rv → Prop) → Prop := fun a k => a.rd fun d => match tyD d with
  | some n => match kitB n T with
    | some b => k (.dat (.bl b))
    | none => False
  | none => False
end
section
variable {X : Cx} {F : Fm} {e a b c : Expr} {es : List Expr} {p p2 pos tpos : Pos} {x : Str}
theorem dv_isi {T : String} {t : DTV} (mi : X.mg "isinstance" = none) (mT : X.mg x = none) (h : DV X F e t) (bT : bootBuiltins x = some (.type T) := by decide +kernel) (hgT : Gl X x := by rfl) (hn : x ≠ "__name__" := by decide) (hd : (x == ("__debug__" : Str)) = false := by decide) (hg : Gl X "isinstance" := by rfl)
    (he : starEach [e, .Name x p2] X.env = (false, eval e X.env) :: starEach [.Name x p2] X.env := by rfl) (he2 : starEach [.Name x p2] X.env = (false, eval (.Name x p2) X.env) :: starEach [] X.env := by rfl) (hpl : (backTo pos (starEach [.Name x p2] X.env)).any (·.1) = false := by rfl) :
    DV X F (.Call (.Name "isinstance" p) [e, .Name x p2] [] pos) (dUn (oIsi T) t) :=
  imp (pe_callB (pos := pos) (p := p) call_isi hg mi (by decide +kernel) (pa_cons h (pa_cons (pe_bltn (v := .ty T) hgT mT bT rfl hn hd) pa_nil he2) he) (by decide) (by decide) he hpl) fun σ H Q ⟨env, os, r, Q', z, f⟩ =>
    ⟨env, os, r, _, z, fun rv e1 q v os1 H1 g1 hd _ => by
      obtain ⟨d, dr, q⟩ := hd.rd g1.r q
      cases q1 : tyD d with
      | none => rw [q1] at q; exact q.elim
      | some n =>
        rw [q1] at q
        dsimp only at q
        cases q2 : kitB n T with
        | none => rw [q2] at q; exact q.elim
        | some b =>
          rw [q2] at q
          exact ⟨v, .ty T, _, _, b, rfl, .ty T, dr.ty q1, kit_ty q2, f _ _ q _ os1 H1 g1 (Dr.bl b) trivial⟩⟩
/-! ### a op b op c -/
def dChain (o o' : Rv → Rv → (Rv → Prop) → Prop) (ta tb tc : DTV) : DTV := fun env Q => ta env fun ra e1 => tb e1 fun rb e2 => still ra e1 e2 ∧ o ra rb fun rv => rv.bool fun k => if k = true then tc e2 fun rc e3 => still rb e2 e3 ∧ o' rb rc fun rv => Q rv e3 else Q (.dat (.bl false)) e2
/-- an operator that only tells -/
def Tell2 (K : PySem.W.Frag) (r : R2) (o : Rv → Rv → (Rv → Prop) → Prop) : Prop := ∀ (F : Fm) (os : List Addr) (env : Ev) (σ : L2.St) (H : Hp) (v w : V) (ra rb : Rv) (Q : VK) (k : Rv → Prop), R K F os H σ env → Hd K F env os H v ra → Hd K F env os H w rb → o ra rb k → (∀ b, k (.dat (.bl b)) → Q (.bl b) H) → r v w H Q
theorem t_int0 {K : PySem.W.Frag} {p : Int → Int → Bool} : Tell2 K (rI0 fun i j => .bl (p i j)) (oInt0 fun i j => .bl (p i j)) := fun F os env σ H v w ra rb Q k r ha hb h q => by
  match ra, rb, h, ha, hb with
  | .dat (.int i), .dat (.int j), h, ha, hb => cases hd_int ha; cases hd_int hb; exact ⟨i, j, rfl, rfl, q _ h⟩
theorem chain_run {K : PySem.W.Frag} {r r' : R2} {o o' : Rv → Rv → (Rv → Prop) → Prop} (l : Tell2 K r o) (l' : Tell2 K r' o') (nb : ∀ ra rb k, o ra rb k → ra.bool (fun _ => True) ∨ True) {ta tb tc : DTV} {σ : L2.St} {H : Hp} {Q : VK} (h : upV K F (dChain o o' ta tb tc) σ H Q) : tChain r r' (upV K F ta) (upV K F tb) (upV K F tc) σ H Q := by
  obtain ⟨env, os, r0, Q', z, f⟩ := h
  refine ⟨env, os, r0, _, z, fun ra e1 q v os1 H1 g1 h1 n1 => ⟨e1, os1, g1.r, _, q, fun rb e2 ⟨st, q2⟩ w os2 H2 g2 h2 n2 => ?_⟩⟩
  refine l F os2 e2 σ H2 v w ra rb _ _ g2.r (h1.go g1.r g2 st) h2 q2 fun b q3 => ⟨b, rfl, ?_⟩
  have g02 := g1.trans r0 g2
  have q3 : if b = true then tc e2 fun rc e3 => still rb e2 e3 ∧ o' rb rc fun rv => Q' rv e3 else Q' (.dat (.bl false)) e2 := q3
  cases b with
  | false => exact iteF (f _ _ (by simpa using q3) _ os2 H2 g02 (show Hd K F e2 os2 H2 (.bl false) (.dat (.bl false)) from Dr.bl false) trivial)
  | true =>
    have q4 : tc e2 fun rc e3 => still rb e2 e3 ∧ o' rb rc fun rv => Q' rv e3 := by simpa using q3
    refine iteT ⟨e2, os2, g2.r, _, q4, fun rc e3 ⟨st3, q5⟩ u os3 H3 g3 h3 n3 => ?_⟩
    exact l' F os3 e3 σ H3 w u rb rc Q _ g3.r (h2.go g2.r g3 st3) h3 q5 fun b q6 => f _ _ q6 _ os3 H3 (g02.trans r0 g3) (Dr.bl b) trivial
theorem dv_chain {op op' : CmpOp} {r r' : R2} {o o' : Rv → Rv → (Rv → Prop) → Prop} {ta tb tc : DTV} (ho : OpR X (compareOp op) r) (ho' : OpR X (compareOp op') r') (l : Tell2 X.K r o) (l' : Tell2 X.K r' o') (ha : DV X F a ta) (hb : DV X F b tb) (hc : DV X F c tc)
    (hm : lastMarks [op, op'] [b, c] = false := by with_unfolding_all rfl) : DV X F (.Compare a [op, op'] [b, c] pos) (dChain o o' ta tb tc) := imp (pe_chain ho ho' ha hb hc hm) fun σ H Q h => chain_run l l' (fun _ _ _ _ => .inr trivial) h
theorem dt_chain {op op' : CmpOp} {r r' : R2} {o o' : Rv → Rv → (Rv → Prop) → Prop} {ta tb tc : DTV} (ho : OpR X (compareOp op) r) (ho' : OpR X (compareOp op') r') (l : Tell2 X.K r o) (l' : Tell2 X.K r' o') (ha : DV X F a ta) (hb : DV X F b tb) (hc : DV X F c tc)
    (hm : lastMarks [op, op'] [b, c] = false := by with_unfolding_all rfl) : DT X F (.Compare a [op, op'] [b, c] pos) (dTst (dChain o o' ta tb tc)) := by
  have h := pt_chain (pos := pos) ho ho' ha hb hc hm
  refine ⟨fun pins s σ H Q I q => h.run pins s σ H Q I ?_⟩
  obtain ⟨env, os, r0, Q', z, f⟩ := q
  refine chain_run (F := F) l l' (fun _ _ _ _ => .inr trivial) ⟨env, os, r0, _, z, fun rv e1 q v os' H' g hd n => ?_⟩
  obtain ⟨b, e2, q⟩ := hd.bool q
  exact ⟨b, e2, f _ _ q os' H' g⟩
end
end DL
namespace DL
open PySem PySem.Spec PyProof.Rows L2 LL
section
variable {X : Cx} {F : Fm} {e a b c : Expr} {es : List Expr} {p p2 pos tpos apos cpos : Pos} {x y z : Str}
/-! ### a, b = e1, e2 -/
def dPar2 (i j : Nat) (ta tb : DTV) : DTS := fun D env => ta env fun ra e1 => tb e1 fun rb e2 => still ra e1 e2 ∧ dStore i ra e2 fun e3 => dStore j rb e3 D.nx
theorem Hd.after {K : PySem.W.Frag} {σ : L2.St} {os : List Addr} {H : Hp} {env : Ev} {v w : V} {ra rb : Rv} {i : Nat} (r : R K F os H σ env) (ha : Hd K F env os H v ra) (hb : Hd K F env os H w rb) (ap : ∀ q, v = .ref q → w = .ref q → ∀ as bs, ra = .new as → rb = .new bs → False) (nb : ∀ a bs, rb ≠ .own a bs) {Q : Ev → Prop} (q : dStore i ra env Q) :
    ∃ env', Q env' ∧ R K F os H (σ.set i (some v)) env' ∧ Hd K F env' os H w rb := by
  cases rb with
  | own a bs => exact absurd rfl (nb a bs)
  | dat d =>
    obtain ⟨env', q, r'⟩ := r.store ha q
    exact ⟨env', q, r', hb⟩
  | new bs =>
    obtain ⟨p, ws, rfl, m, ns, z, o, hp, dd⟩ := hb
    cases ra with
    | own a ds => exact q.elim
    | dat d =>
      refine ⟨_, q, r.setD ha, p, ws, rfl, m, fun k => ?_, z, o, hp, dd⟩
      rw [adAt_set]
      split
      · intro z; cases z
      · exact ns k
    | new as =>
      obtain ⟨p1, vs, rfl, m1, ns1, z1, o1, hp1, d1⟩ := ha
      refine ⟨_, q p1, r.set ⟨rfl, vs, hp1, d1⟩ (fun a e => by cases e; exact ⟨m1, ns1, .inr z1⟩), p, ws, rfl, m, fun k => ?_, z, o, hp, dd⟩
      rw [adAt_set]
      split
      · intro z
        have z : some p1 = some p := z
        exact ap p (by cases z; rfl) rfl as bs rfl rfl
      · exact ns k
theorem ds_par {i j : Nat} {ta tb : DTV} {px py pt : Pos} {kt k2 pt2} (hc : X.calm = true) (hN : X.N.Nodup) (ha : DV X F a ta) (hb : DV X F b tb) (hi : X.N[i]? = some x := by rfl) (hj : X.N[j]? = some y := by rfl) (hij : i ≠ j := by decide)
    (hx : X.env.scope.names.lookup x = some .local := by rfl) (hy : X.env.scope.names.lookup y = some .local := by rfl) (h1 : starEach [a, b] X.env = (false, eval a X.env) :: starEach [b] X.env := by rfl) (h2 : starEach [b] X.env = (false, eval b X.env) :: starEach [] X.env := by rfl)
    (hw : swappedStores [.Tuple [.Name x px, .Name y py] kt pt] (.Tuple [a, b] k2 pt2) X.env = pure (some [x, y]) := by rfl)
    (hs : swapsWithSole [.Tuple [.Name x px, .Name y py] kt pt] (.Tuple [a, b] k2 pt2) pos.line X.env = pure false := by rfl) :
    DS X F (.Assign [.Tuple [.Name x px, .Name y py] kt pt] (.Tuple [a, b] k2 pt2) pos) (dPar2 i j ta tb) :=
  impS (ps_par hc hN hi hj hij hx hy (pa_cons ha (pa_cons hb pa_nil h2) h1) hw hs) fun D σ H ⟨env, os, r, D', q, w⟩ =>
    ⟨env, os, r, _, q, fun ra e1 q v os1 H1 g1 hd1 n1 => ⟨e1, os1, g1.r, _, q, fun rb e2 ⟨st, q2⟩ u os2 H2 g2 hd2 n2 => ⟨v, u, rfl, by
      have hd1' := hd1.go g1.r g2 st
      have nb : ∀ a bs, rb ≠ .own a bs := fun a bs z => by
        subst z
        cases ra with
        | dat d => exact q2
        | own a ds => exact q2
        | new ds => exact q2 0
      obtain ⟨e3, q3, r3, hd3⟩ := Hd.after g2.r hd1' hd2 (fun pq f1 f2 as bs ea eb => by
        subst ea eb
        obtain ⟨p1, _, ep, m1, _⟩ := hd1
        exact n2 pq f2 (by rw [f1] at ep; cases ep; exact m1)) nb q2
      obtain ⟨e4, q4, r4⟩ := r3.store hd3 q3
      exact w.nx _ q4 os2 _ H2 r4⟩⟩⟩
/-- a, b, c = e1, e2, e3, at most the last one a new list -/
def dPar3 (i j l : Nat) (ta tb : DTE) (tc : DTV) : DTS := fun D env => ta env fun d e1 => tb e1 fun d' e2 => tc e2 fun rc e3 => dStore l rc ((e3.set i (.dat d)).set j (.dat d')) D.nx
theorem ds_par3 {i j l : Nat} {ta tb : DTE} {tc : DTV} {px py pz pt : Pos} {kt k2 pt2} (hc : X.calm = true) (hN : X.N.Nodup) (ha : DE X F a ta) (hb : DE X F b tb) (hcc : DV X F c tc) (hi : X.N[i]? = some x := by rfl) (hj : X.N[j]? = some y := by rfl) (hl : X.N[l]? = some z := by rfl) (hij : i ≠ j := by decide) (hil : i ≠ l := by decide) (hjl : j ≠ l := by decide)
    (hx : X.env.scope.names.lookup x = some .local := by rfl) (hy : X.env.scope.names.lookup y = some .local := by rfl) (hz : X.env.scope.names.lookup z = some .local := by rfl) (h1 : starEach [a, b, c] X.env = (false, eval a X.env) :: starEach [b, c] X.env := by rfl) (h2 : starEach [b, c] X.env = (false, eval b X.env) :: starEach [c] X.env := by rfl) (h3 : starEach [c] X.env = (false, eval c X.env) :: starEach [] X.env := by rfl)
    (hw : swappedStores [.Tuple [.Name x px, .Name y py, .Name z pz] kt pt] (.Tuple [a, b, c] k2 pt2) X.env = pure (some [x, y, z]) := by rfl)
    (hs : swapsWithSole [.Tuple [.Name x px, .Name y py, .Name z pz] kt pt] (.Tuple [a, b, c] k2 pt2) pos.line X.env = pure false := by rfl) :
    DS X F (.Assign [.Tuple [.Name x px, .Name y py, .Name z pz] kt pt] (.Tuple [a, b, c] k2 pt2) pos) (dPar3 i j l ta tb tc) :=
  impS (ps_par3 hc hN hi hj hl hij hil hjl hx hy hz (pa_cons ha (pa_cons hb (pa_cons hcc pa_nil h3) h2) h1) hw hs) fun D σ H ⟨env, os, r, D', q, w⟩ =>
    ⟨env, os, r, _, q, fun d e1 q v os1 H1 g1 dd1 => ⟨e1, os1, g1.r, _, q, fun d' e2 q2 u os2 H2 g2 dd2 => ⟨e2, os2, g2.r, _, q2, fun rc e3 q3 t os3 H3 g3 hd3 n3 => ⟨v, u, t, rfl, by
      have r1 := (g3.r.setD (i := i) ((dd1.up (g2.hs g1.r)).up (g3.hs g2.r))).setD (i := j) (dd2.up (g3.hs g2.r))
      have hd4 : Hd X.K F ((e3.set i (.dat d)).set j (.dat d')) os3 H3 t rc := by
        cases rc with
        | dat d => exact hd3
        | own a ds => exact q3.elim
        | new ds =>
          obtain ⟨p, vs, e, m, ns, z, o, hp, dd⟩ := hd3
          refine ⟨p, vs, e, m, fun k => ?_, z, o, hp, dd⟩
          rw [adAt_set]
          split
          · intro z; cases z
          · rw [adAt_set]
            split
            · intro z; cases z
            · exact ns k
      obtain ⟨e4, q4, r4⟩ := r1.store hd4 q3
      exact w.nx _ q4 os3 _ H3 r4⟩⟩⟩⟩
/-! ### methods of own lists -/
def ownAt (env : Ev) (i : Nat) (k : Addr → List D → Prop) : Prop := match env[i]? with
  | some (.own a ds) => k a ds
  | _ => False
theorem ownAt.ex {env : Ev} {i : Nat} {k : Addr → List D → Prop} (h : ownAt env i k) : ∃ a ds, env[i]? = some (.own a ds) ∧ k a ds := by
  unfold ownAt at h
  cases q : env[i]? with
  | none => rw [q] at h; exact h.elim
  | some s =>
    rw [q] at h
    cases s with
    | own a ds => exact ⟨a, ds, rfl, h⟩
    | _ => exact h.elim
def dApp (i : Nat) (t : DTE) : DTV := fun env Q => ownAt env i fun _ _ => t env fun d e1 => ownAt e1 i fun a ds => ds.length < 1000 ∧ Q (.dat .non) (e1.set i (.own a (ds ++ [d])))
theorem ad_own {env : Ev} {i : Nat} {a : Addr} {ds : List D} (h : env[i]? = some (.own a ds)) : adAt env i = some a := by unfold adAt; rw [h]; rfl
theorem dv_app {i : Nat} {o : Expr} {t : DTE} (ho : PE X o (tVar i)) (h : DE X F e t) (hbase : attributeBase o "append" X.env (eval o X.env) = eval o X.env := by rfl)
    (hfew : ((backTo cpos (starEach [e] X.env)).all (fun x => !x.1) && (backToKw cpos (keywordEach [] X.env)).all (fun x => x.1.isSome) && decide ([e].length + ([] : List Keyword).length + (if ([] : List Keyword).isEmpty then 0 else 1) < 30)) = true := by rfl)
    (hline : (apos.endLine == cpos.line) = true := by rfl) (hs : starEach [e] X.env = (false, eval e X.env) :: starEach [] X.env := by rfl) (hplain : (backTo cpos (starEach [] X.env)).any (·.1) = false := by rfl) :
    DV X F (.Call (.Attribute o "append" apos) [e] [] cpos) (dApp i t) :=
  imp (pe_bm PySem.F.plainAttrs_list PySem.F.slot_list_append PySem.F.type_list_append mt_append ho (pa_cons h pa_nil hs) hbase hfew hline hs hplain) fun σ H Q ⟨env, os, r, Q', q, f⟩ => by
    obtain ⟨a, ds, ea, q⟩ := q.ex
    obtain ⟨x, e1, rfl, vs, e3, e4⟩ := r.sl i _ ea
    refine ⟨_, e1, .inl ⟨rfl, _, SqL.of e3⟩, env, os, r, _, q, fun d e2 q v os1 H1 g1 dd => ?_⟩
    obtain ⟨a', ds', ea', l, q⟩ := q.ex
    have ea2 : a' = a := by
      have := (g1.ad i).trans (ad_own ea)
      rw [ad_own ea'] at this
      cases this
      rfl
    subst ea2
    obtain ⟨x', f1, rfl, vs', f3, f4⟩ := g1.r.sl i _ ea'
    exact ⟨a', vs', v, rfl, rfl, f3, by rw [f4.length]; exact small1000 (Nat.le_of_lt l), f _ _ q _ os1 _ (g1.trans r (g1.r.put ea' (f4.append (.cons dd .nil)))) Dr.non trivial⟩
def dPopAt (i : Nat) (t : DTE) : DTV := fun env Q => ownAt env i fun _ _ => t env fun d e1 => ownAt e1 i fun a ds => match d with
  | .int k => 0 ≤ k ∧ match ds[k.toNat]? with
    | some d => ds.length ≤ 1000 ∧ Q (.dat d) (e1.set i (.own a (ds.eraseIdx k.toNat)))
    | none => False
  | _ => False
theorem dv_popAt {i : Nat} {o : Expr} {t : DTE} (ho : PE X o (tVar i)) (h : DE X F e t) (hbase : attributeBase o "pop" X.env (eval o X.env) = eval o X.env := by rfl)
    (hfew : ((backTo cpos (starEach [e] X.env)).all (fun x => !x.1) && (backToKw cpos (keywordEach [] X.env)).all (fun x => x.1.isSome) && decide ([e].length + ([] : List Keyword).length + (if ([] : List Keyword).isEmpty then 0 else 1) < 30)) = true := by rfl)
    (hline : (apos.endLine == cpos.line) = true := by rfl) (hs : starEach [e] X.env = (false, eval e X.env) :: starEach [] X.env := by rfl) (hplain : (backTo cpos (starEach [] X.env)).any (·.1) = false := by rfl) :
    DV X F (.Call (.Attribute o "pop" apos) [e] [] cpos) (dPopAt i t) :=
  imp (pe_bm PySem.F.plainAttrs_list PySem.F.slot_list_pop PySem.F.type_list_pop mt_popAt ho (pa_cons h pa_nil hs) hbase hfew hline hs hplain) fun σ H Q ⟨env, os, r, Q', q, f⟩ => by
    obtain ⟨a, ds, ea, q⟩ := q.ex
    obtain ⟨x, e1, rfl, vs, e3, e4⟩ := r.sl i _ ea
    refine ⟨_, e1, .inl ⟨rfl, _, SqL.of e3⟩, env, os, r, _, q, fun d e2 q v os1 H1 g1 dd => ?_⟩
    obtain ⟨a', ds', ea', q⟩ := q.ex
    have ea2 : a' = a := by
      have := (g1.ad i).trans (ad_own ea)
      rw [ad_own ea'] at this
      cases this
      rfl
    subst ea2
    obtain ⟨x', f1, rfl, vs', f3, f4⟩ := g1.r.sl i _ ea'
    cases dd with
    | int k =>
      obtain ⟨k0, q⟩ := q
      cases hk : ds'[k.toNat]? with
      | none => rw [hk] at q; exact q.elim
      | some d =>
        rw [hk] at q
        obtain ⟨l, q⟩ := q
        obtain ⟨u, hu, du⟩ := f4.put hk
        have lt : k.toNat < vs'.length := (List.getElem?_eq_some_iff.mp hu).1
        have ll : vs'.length ≤ 1000 := by rw [f4.length]; exact l
        have sx : seqIndex? k vs'.length = some k.toNat := by
          unfold seqIndex?
          have h1 : ¬ k < 0 := by omega
          have h2 : k < (vs'.length : Int) := by omega
          simp [h1, h2, k0]
        exact ⟨a', vs', k, k.toNat, u, rfl, rfl, f3, by omega, by omega, sx, hu, f _ _ q _ os1 _ (g1.trans r (g1.r.put ea' f4.eraseIdx)) (show Dr X.K (hid os1 (upd H1 a' _)) u d by rw [hid_upd (g1.r.mem i a' (ad_own ea'))]; exact du) trivial⟩
    | _ => exact q.elim
def dPop (i : Nat) : DTV := fun env Q => ownAt env i fun a ds => match ds[ds.length - 1]? with
  | some d => Q (.dat d) (env.set i (.own a ds.dropLast))
  | none => False
theorem DrA.dropLast {K : PySem.W.Frag} {H : Hp} {vs : List V} {ds : List D} (h : DrA K H vs ds) : DrA K H vs.dropLast ds.dropLast := by
  rw [List.dropLast_eq_take, List.dropLast_eq_take, h.length]
  exact h.take
theorem dv_pop {i : Nat} {o : Expr} (ho : PE X o (tVar i)) (hbase : attributeBase o "pop" X.env (eval o X.env) = eval o X.env := by rfl) (hline : (apos.endLine == cpos.line) = true := by rfl) :
    DV X F (.Call (.Attribute o "pop" apos) [] [] cpos) (dPop i) :=
  imp (pe_bm0 PySem.F.plainAttrs_list PySem.F.slot_list_pop PySem.F.type_list_pop mt_pop ho hbase hline) fun σ H Q ⟨env, os, r, Q', q, f⟩ => by
    obtain ⟨a, ds, ea, q⟩ := q.ex
    obtain ⟨x, e1, rfl, vs, e3, e4⟩ := r.sl i _ ea
    cases hk : ds[ds.length - 1]? with
    | none => rw [hk] at q; exact q.elim
    | some d =>
      rw [hk] at q
      obtain ⟨u, hu, du⟩ := e4.put hk
      exact ⟨_, e1, .inl ⟨rfl, _, SqL.of e3⟩, a, vs, u, rfl, rfl, e3, by rw [e4.length]; exact hu, f _ _ q _ os _ (r.put ea e4.dropLast) (show Dr X.K (hid os (upd H a _)) u d by rw [hid_upd (r.mem i a (ad_own ea))]; exact du) trivial⟩
/-- xs.extend(e), e a list or a tuple -/
def dExt (i : Nat) (t : DTV) : DTV := fun env Q => ownAt env i fun _ _ => t env fun rv e1 => ownAt e1 i fun a ds => match rv with
  | .dat (.tup bs) => ds.length + bs.length ≤ 1000 ∧ Q (.dat .non) (e1.set i (.own a (ds ++ bs)))
  | .new bs => ds.length + bs.length ≤ 1000 ∧ Q (.dat .non) (e1.set i (.own a (ds ++ bs)))
  | _ => False
theorem MtM.or {id : String} {r r' : V → List V → Hp → VK → Prop} (h : MtM X id r) (h' : MtM X id r') : MtM X id (fun x vs H Q => r x vs H Q ∨ r' x vs H Q) := by
  intro pins s σ H x vs v us Q I rx rv q
  rcases q with q | q
  · exact h pins s σ H x vs v us Q I rx rv q
  · exact h' pins s σ H x vs v us Q I rx rv q
theorem dv_ext {i : Nat} {o : Expr} {t : DTV} (ho : PE X o (tVar i)) (h : DV X F e t) (hbase : attributeBase o "extend" X.env (eval o X.env) = eval o X.env := by rfl)
    (hfew : ((backTo cpos (starEach [e] X.env)).all (fun x => !x.1) && (backToKw cpos (keywordEach [] X.env)).all (fun x => x.1.isSome) && decide ([e].length + ([] : List Keyword).length + (if ([] : List Keyword).isEmpty then 0 else 1) < 30)) = true := by rfl)
    (hline : (apos.endLine == cpos.line) = true := by rfl) (hs : starEach [e] X.env = (false, eval e X.env) :: starEach [] X.env := by rfl) (hplain : (backTo cpos (starEach [] X.env)).any (·.1) = false := by rfl) :
    DV X F (.Call (.Attribute o "extend" apos) [e] [] cpos) (dExt i t) :=
  imp (pe_bm PySem.F.plainAttrs_list PySem.F.slot_list_extend PySem.F.type_list_extend (MtM.or mt_extend mt_extT) ho (pa_cons h pa_nil hs) hbase hfew hline hs hplain) fun σ H Q ⟨env, os, r, Q', q, f⟩ => by
    obtain ⟨a, ds, ea, q⟩ := q.ex
    obtain ⟨x, e1, rfl, vs, e3, e4⟩ := r.sl i _ ea
    refine ⟨_, e1, .inl ⟨rfl, _, SqL.of e3⟩, env, os, r, _, q, fun rv e2 q v os1 H1 g1 dd _ => ?_⟩
    obtain ⟨a', ds', ea', q⟩ := q.ex
    have ea2 : a' = a := by
      have := (g1.ad i).trans (ad_own ea)
      rw [ad_own ea'] at this
      cases this
      rfl
    subst ea2
    obtain ⟨x', f1, rfl, vs', f3, f4⟩ := g1.r.sl i _ ea'
    match rv, q, dd with
    | .dat (.tup bs), ⟨l, q⟩, dd =>
      obtain ⟨b, ws, rfl, h1, h2⟩ := hd_tup dd
      exact .inr ⟨a', b, vs', ws, rfl, rfl, f3, Same.seqT hid_same h1, by rw [f4.length, h2.length]; exact Nat.le_of_lt (small1000 l), f _ _ q _ os1 _ (g1.trans r (g1.r.put ea' (f4.append h2))) Dr.non trivial⟩
    | .new bs, ⟨l, q⟩, dd =>
      obtain ⟨b, ws, rfl, m, ns, z, o', hp, h2⟩ := dd
      exact .inl ⟨a', b, vs', ws, rfl, rfl, f3, hp, by rw [f4.length, h2.length]; exact Nat.le_of_lt (small1000 l), f _ _ q _ os1 _ (g1.trans r (g1.r.put ea' (f4.append h2))) Dr.non trivial⟩
/-! ### truth -/
def dTru (t : DTV) : DTT := fun env Q => t env fun rv e1 => rv.seq fun _ ds => Q (!ds.isEmpty) e1
theorem dt_tru {t : DTV} (h : DV X F e t) (he : ∀ whole, isTrue e X.env whole = (do let v ← whole; standAt e.pos; holding [v] (truthy v)) := by intro _; rfl) : DT X F e (dTru t) := by
  have h := pt_truth h he
  refine ⟨fun pins s σ H Q I q => h.run pins s σ H Q I ?_⟩
  obtain ⟨env, os, r0, Q', z, f⟩ := q
  refine ⟨env, os, r0, _, z, fun rv e1 q v os' H' g hd n => ?_⟩
  obtain ⟨a, vs, ds, b, rfl, l1, l2, da, q⟩ := hd.seq g.r q
  have el : vs.isEmpty = ds.isEmpty := by cases da <;> rfl
  refine ⟨!ds.isEmpty, ?_, f _ _ q os' H' g⟩
  cases b with
  | false => exact .inl ⟨vs, l1 rfl, by rw [el]⟩
  | true => exact .inr (.inl ⟨vs, l2 rfl, by rw [el]⟩)
end
end DL
namespace DL
open PySem PySem.Spec PyProof.Rows L2 LL
section
variable {X : Cx} {F : Fm} {e a b c : Expr} {es : List Expr} {p p2 pos tpos apos cpos : Pos} {x y z : Str} {elts : List Expr} {kk : Nat}
/-! ### slices -/
abbrev DTO := Ev → (Option Int → Ev → Prop) → Prop
def upO (K : PySem.W.Frag) (F : Fm) (t : DTO) : TO := fun σ H Q => ∃ env os, R K F os H σ env ∧ ∃ Q', t env Q' ∧ ∀ o env', Q' o env' → ∀ os' H', Go K F σ os H env os' H' env' → Q o H'
abbrev DO (X : Cx) (F : Fm) (e : Option Expr) (t : DTO) : Prop := PO X e (upO X.K F t)
theorem impO {o : Option Expr} {t t' : TO} (h : PO X o t) (w : ∀ σ H Q, t' σ H Q → t σ H Q) : PO X o t' := ⟨fun pins s σ H Q I q => h.run pins s σ H Q I (w σ H Q q)⟩
def doNone : DTO := fun env Q => Q none env
theorem do_none : DO X F none doNone := impO po_none fun σ H Q ⟨env, os, r, Q', q, f⟩ => f _ _ q os H (Go.refl r)
def doSome (t : DTE) : DTO := fun env Q => t env fun d e1 => match d with
  | .int i => Q (some i) e1
  | _ => False
theorem do_some {t : DTE} (h : DE X F e t) : DO X F (some e) (doSome t) := impO (po_some h) fun σ H Q ⟨env, os, r, Q', q, f⟩ => ⟨env, os, r, _, q, fun d e1 q v os1 H1 g1 dd => by
  cases dd with
  | int i => exact ⟨i, rfl, f _ _ q os1 H1 g1⟩
  | _ => exact q.elim⟩
def cutD (ds : List D) (lo hi : Option Int) : List D := (ds.drop (HT.sIx ds.length 0 lo)).take (HT.sIx ds.length ds.length hi - HT.sIx ds.length 0 lo)
theorem DrA.cut {K : PySem.W.Frag} {H : Hp} {vs : List V} {ds : List D} (h : DrA K H vs ds) (lo hi : Option Int) : DrA K H (cutV vs lo hi) (cutD ds lo hi) := by
  unfold cutV cutD
  rw [h.length]
  exact h.drop.take
def dSl (t : DTV) (tl th : DTO) : DTV := fun env Q => t env fun rv e1 => tl e1 fun lo e2 => th e2 fun hi e3 => (still rv e1 e2 ∧ still rv e2 e3) ∧ rv.seq fun tp ds => Q (if tp = true then .dat (.tup (cutD ds lo hi)) else .new (cutD ds lo hi)) e3
theorem dv_sl {t : DTV} {tl th : DTO} {lo hi : Option Expr} (h : DV X F e t) (hl : DO X F lo tl) (hh : DO X F hi th) : DV X F (.Subscript e (.Slice lo hi none p2) pos) (dSl t tl th) :=
  imp (pe_slice (SlR.or sl_tupA sl_list) h hl hh) fun σ H Q ⟨env, os, r, Q', q, f⟩ => ⟨env, os, r, _, q, fun rv e1 q v os1 H1 g1 hd n1 => ⟨e1, os1, g1.r, _, q, fun lo e2 q os2 H2 g2 => ⟨e2, os2, g2.r, _, q, fun hi e3 q os3 H3 g3 => by
    obtain ⟨⟨s1, s2⟩, q⟩ := q
    have g02 := g1.trans r g2
    have g03 := g02.trans r g3
    have hd3 := (hd.go g1.r g2 s1).go g2.r g3 s2
    have newL : ∀ {vs : List V} {ds : List D}, DrA X.K (hid os3 H3) vs ds → Q' (.new (cutD ds lo hi)) e3 → ∀ p, H3 p = none → Q (.ref p) (upd H3 p (.lst (cutV vs lo hi))) := fun da q p np =>
      f _ _ q _ _ _ (g03.trans r (Go.hide g3.r np)) (g3.r.newL np (da.cut lo hi)) fun p' e m => by cases e; exact g3.r.off np (g03.sub _ m)
    cases rv with
    | own a ds =>
      obtain ⟨b, vs, ds', rfl, hb, da, q⟩ := hd3.lis g3.r (k := fun ds => Q' (.new (cutD ds lo hi)) e3) q
      exact .inr ⟨b, vs, rfl, SqL.of hb, newL da q⟩
    | new ds =>
      obtain ⟨b, vs, ds', rfl, hb, da, q⟩ := hd3.lis g3.r (k := fun ds => Q' (.new (cutD ds lo hi)) e3) q
      exact .inr ⟨b, vs, rfl, SqL.of hb, newL da q⟩
    | dat d =>
      cases d with
      | lst ds =>
        cases hd3 with
        | lst h1 h2 => exact .inr ⟨_, _, rfl, hid_same.seq h1, newL h2 q⟩
      | tup ds =>
        cases hd3 with
        | tup h1 h2 =>
          rename_i b vs
          refine .inl ⟨b, vs, rfl, Same.seqT hid_same h1, fun hw => ?_, fun _ p np => ?_⟩
          · have ec : cutD ds lo hi = ds := by
              unfold cutD
              rw [h2.length] at hw
              rw [hw.1, hw.2, List.drop_zero, Nat.sub_zero, List.take_length]
            have q' : Q' (.dat (.tup (cutD ds lo hi))) e3 := q
            rw [ec] at q'
            exact f _ _ q' _ os3 H3 g03 (Dr.tup h1 h2) trivial
          · exact f _ _ q _ os3 _ (g03.trans r (Go.same g3.r (same_new np))) (Dr.tup (.inl (.inl (hid_at upd_same fun m => g3.r.off np m))) ((h2.cut lo hi).up (hid_up (same_new np)))) trivial
      | _ => exact q.elim⟩⟩⟩
/-! ### list(range(n)) -/
theorem rgV_D {K : PySem.W.Frag} {H : Hp} {i j : Int} : DrA K H (rgV i j) (rgD i (j - i).toNat) := by
  unfold rgV rgD
  induction (List.range (j - i).toNat) with
  | nil => exact .nil
  | cons m ms ih => exact .cons (.int _) ih
def dLstRg (t : DTE) : DTV := fun env Q => t env fun d e1 => match d with
  | .int n => (0 ≤ n ∧ n ≤ 1000) ∧ Q (.new (rgD 0 n.toNat)) e1
  | _ => False
theorem dv_lstRg {t : DTE} (hc : X.calm = true) (ml : X.mg "list" = none) (mr : X.mg "range" = none) (h : DE X F a t) (hg : Gl X "list" := by rfl) (hgr : Gl X "range" := by rfl) (na : starEach [a] X.env = (false, eval a X.env) :: starEach [] X.env := by rfl)
    (nb : starEach [.Call (.Name "range" p2) [a] [] tpos] X.env = (false, eval (.Call (.Name "range" p2) [a] [] tpos) X.env) :: starEach [] X.env := by rfl) : DV X F (.Call (.Name "list" p) [.Call (.Name "range" p2) [a] [] tpos] [] pos) (dLstRg t) :=
  imp (pe_listRg (p := p) (pos := pos) hc hg ml (prg_1 hgr mr h na) nb) fun σ H Q ⟨env, os, r, Q', q, f⟩ => ⟨env, os, r, _, q, fun d e1 q v os1 H1 g1 dd => by
    cases dd with
    | int n =>
      obtain ⟨⟨n0, n1⟩, q⟩ := q
      refine ⟨n, rfl, RgOk.of_le (by omega) (by omega) (by omega) n0, fun p np => ?_⟩
      have z : DrA X.K (hid os1 H1) (rgV 0 n) (rgD 0 n.toNat) := by
        have := rgV_D (K := X.K) (H := hid os1 H1) (i := 0) (j := n)
        rw [Int.sub_zero] at this
        exact this
      exact f _ _ q _ _ _ (g1.trans r (Go.hide g1.r np)) (g1.r.newL np z) fun p' e m => by cases e; exact g1.r.off np (g1.sub _ m)
    | _ => exact q.elim⟩
/-! ### enumerate(t), zip(t, u) of data -/
def enD (ds : List D) : List D := (List.range ds.length).map fun i => D.tup [.int ((i : Nat) : Int), ds[i]?.getD .non]
def diEn (t : DTE) : DTI := fun env Q => t env fun d e1 => match d with
  | .tup ds => Q (enD ds) e1
  | _ => False
theorem pair_up {K : PySem.W.Frag} {os : List Addr} {H1 : Hp} {T : Addr} {x y : V} {d e : D} (nT : H1 T = none) (hT : ∀ c ∈ os, H1 c ≠ none) (h1 : Dr K (hid os H1) x d) (h2 : Dr K (hid os H1) y e) : Dr K (hid os (upd H1 T (.tup [x, y]))) (.ref T) (.tup [d, e]) :=
  .tup (.inl (.inl (hid_at upd_same fun m => hT T m nT))) (.cons (h1.up (hid_up (same_new nT))) (.cons (h2.up (hid_up (same_new nT))) .nil))
theorem di_en {t : DTE} (hm : X.mg "enumerate" = none) (h : DE X F e t) (hg : Gl X "enumerate" := by rfl) (hs : starEach [e] X.env = (false, eval e X.env) :: starEach [] X.env := by rfl) : DI X F (.Tuple elts kk tpos) (.Call (.Name "enumerate" p) [e] [] pos) (diEn t) :=
  ⟨fun pins s σ H Rr I ⟨env, os, r, Q', q, w⟩ => (pi_enT (elts := elts) (kk := kk) (tpos := tpos) (p := p) (pos := pos) hg hm h hs).run pins s σ H Rr I ⟨env, os, r, _, q, fun d e1 q v os1 H1 g1 dd => by
    cases dd with
    | tup h1 h2 =>
      rename_i b vs ds
      refine ⟨b, vs, rfl, Same.seqT hid_same h1, w _ _ q _ os1 H1 g1 ?_⟩
      have mk : ∀ G : Hp → Prop, (∀ H, G H → SqT X.K H b vs) → (∀ H', (∀ c o, c ∉ ads e1 → H1 c = some o → H' c = some o) → G H') → Wk X.K os1 H1 e1 (ItE X.K b) (enD ds) := fun G g1 g2 => by
        refine ⟨G, YPair (fun i => some (.int (i : Nat))) (fun i => vs[i]?), ?_, g2, fun i Ha x Hb d ed y => ?_⟩
        · have el : (enD ds).length = vs.length := by unfold enD; rw [List.length_map, List.length_range, h2.length]
          rw [el]
          exact walk_E.mono g1 fun _ _ _ _ _ _ y => y
        · obtain ⟨T, u, v', rfl, nT, rfl, eu, ev⟩ := y
          cases eu
          refine ⟨same_new nT, fun os' s hn => ?_⟩
          unfold enD at ed
          rw [List.getElem?_map] at ed
          cases q1 : (List.range ds.length)[i]? with
          | none => rw [q1] at ed; cases ed
          | some j =>
            rw [q1] at ed
            obtain ⟨l, ej⟩ := List.getElem?_eq_some_iff.mp q1
            rw [List.getElem_range] at ej
            subst ej
            cases ed
            obtain ⟨dv, e3, qd⟩ := h2.get ev
            show Dr _ _ _ (.tup [.int ((i : Nat) : Int), ds[i]?.getD .non])
            rw [e3]
            exact pair_up nT hn (.int _) (qd.up s)
      rcases h1 with (h1 | ⟨o, h1⟩) | h1
      · exact mk (fun H => H b = some (.tup vs)) (fun H z => .inl (.inl z)) fun H' k => k b _ (not_ads g1.r h1) (hid_of h1).1
      · exact mk (fun H => H b = some (.frz o (.tup vs))) (fun H z => .inl (.inr ⟨o, z⟩)) fun H' k => k b _ (not_ads g1.r h1) (hid_of h1).1
      · exact mk (fun _ => True) (fun H _ => .inr h1) fun _ _ => trivial
    | _ => exact q.elim⟩⟩
theorem walk_zT {K : PySem.W.Frag} {a b : Addr} {xs ys : List V} {n : Nat} (hn : n = min xs.length ys.length) : Walk (RZ.ItzT K a b) n (fun H => SqT K H a xs ∧ SqT K H b ys) (YPair (fun i => xs[i]?) (fun i => ys[i]?)) := by
  refine ⟨fun i H hi q => ?_, fun H q => ⟨xs, ys, q.1, q.2, by omega⟩, fun i H v H' _ q y => ?_⟩
  · have l1 : i < xs.length := by omega
    have l2 : i < ys.length := by omega
    exact ⟨xs, ys, xs[i], ys[i], q.1, q.2, List.getElem?_eq_getElem l1, List.getElem?_eq_getElem l2⟩
  · obtain ⟨T, x, z, h1, h2, h3, h4, h5⟩ := y
    exact ⟨T, x, z, h1, h2, h3, h4 xs q.1, h5 ys q.2⟩
def zipD (as bs : List D) : List D := (as.zip bs).map fun p => D.tup [p.1, p.2]
def diZip (t : DTA) : DTI := fun env Q => t env fun ds e1 => match ds with
  | [.tup as, .tup bs] => Q (zipD as bs) e1
  | _ => False
/-- data at a tuple stay, whatever is done to own lists -/
theorem tup_keeps {K : PySem.W.Frag} {os : List Addr} {H : Hp} {σ : L2.St} {env : Ev} (r : R K F os H σ env) {a : Addr} {xs : List V} (h : SqT K (hid os H) a xs) : ∀ H', (∀ c o, c ∉ ads env → H c = some o → H' c = some o) → SqT K H' a xs := fun H' k => by
  rcases h with (h | ⟨o, h⟩) | h
  · exact .inl (.inl (k a _ (not_ads r h) (hid_of h).1))
  · exact .inl (.inr ⟨o, k a _ (not_ads r h) (hid_of h).1⟩)
  · exact .inr h
theorem di_zip {e2 : Expr} {t : DTA} (hm : X.mg "zip" = none) (h : DA X F [e, e2] t) (hg : Gl X "zip" := by rfl) (hs : starEach [e, e2] X.env = (false, eval e X.env) :: starEach [e2] X.env := by rfl) (hpl : (backTo pos (starEach [e2] X.env)).any (·.1) = false := by rfl) :
    DI X F (.Tuple elts kk tpos) (.Call (.Name "zip" p) [e, e2] [] pos) (diZip t) :=
  ⟨fun pins s σ H Rr I ⟨env, os, r, Q', q, w⟩ => (RZ.pi_zipA (elts := elts) (kk := kk) (tpos := tpos) (p := p) (pos := pos) hg hm h hs hpl).run pins s σ H Rr I ⟨env, os, r, _, q, fun ds e1 q vs os1 H1 g1 dd => by
    match ds, q, dd with
    | [.tup as, .tup bs], q, .cons (.tup h1 h2) (.cons (.tup h3 h4) .nil) =>
      refine ⟨_, _, _, _, rfl, .inr ⟨Same.seqT hid_same h1, Same.seqT hid_same h3, w _ _ q _ os1 H1 g1 ⟨_, _, walk_zT (by unfold zipD; rw [List.length_map, List.length_zip, h2.length, h4.length]), fun H' k => ⟨tup_keeps g1.r h1 H' k, tup_keeps g1.r h3 H' k⟩, fun i Ha x Hb d ed y => ?_⟩⟩⟩
      obtain ⟨T, u, v', rfl, nT, rfl, eu, ev⟩ := y
      refine ⟨same_new nT, fun os' s hn => ?_⟩
      obtain ⟨du, e3, qu⟩ := h2.get eu
      obtain ⟨dv, e4, qv⟩ := h4.get ev
      have ez : (as.zip bs)[i]? = some (du, dv) := by rw [List.getElem?_zip_eq_some]; exact ⟨e3, e4⟩
      unfold zipD at ed
      rw [List.getElem?_map, ez] at ed
      cases ed
      exact pair_up nT hn (qu.up s) (qv.up s)⟩⟩
/-! ### xs.index(e) of data -/
def idxD (d : D) : List D → Option Nat
  | [] => none
  | e :: es => if eqF e d = true then some 0 else (idxD d es).map (· + 1)
theorem idxD_spec {d : D} : ∀ {ds : List D} {j : Nat}, idxD d ds = some j → ∃ e, ds[j]? = some e ∧ eqF e d = true ∧ ∀ (m : Nat) (e' : D), m < j → ds[m]? = some e' → eqF e' d = false
  | e :: es, j, h => by
    unfold idxD at h
    by_cases q : eqF e d = true
    · rw [if_pos q] at h
      cases h
      exact ⟨e, rfl, q, fun m e' hm => absurd hm (Nat.not_lt_zero m)⟩
    · rw [if_neg q] at h
      cases z : idxD d es with
      | none => rw [z] at h; cases h
      | some i =>
        rw [z] at h
        cases h
        obtain ⟨e0, h1, h2, h3⟩ := idxD_spec z
        refine ⟨e0, h1, h2, fun m e' hm he => ?_⟩
        cases m with
        | zero => cases he; exact eq_false_of_ne_true q
        | succ m => exact h3 m e' (Nat.lt_of_succ_lt_succ hm) he
def dIndex (t : DTE) (u : DTE) : DTV := fun env Q => t env fun d e1 => match d with
  | .lst ds => u e1 fun d' e2 => (d'.flat = true ∧ ds.all D.flat = true) ∧ match idxD d' ds with
    | some j => Q (.dat (.int ((j : Nat) : Int))) e2
    | none => False
  | _ => False
theorem dv_index {o : Expr} {t u : DTE} (ho : DE X F o t) (h : DE X F e u) (hbase : attributeBase o "index" X.env (eval o X.env) = eval o X.env := by rfl)
    (hfew : ((backTo cpos (starEach [e] X.env)).all (fun x => !x.1) && (backToKw cpos (keywordEach [] X.env)).all (fun x => x.1.isSome) && decide ([e].length + ([] : List Keyword).length + (if ([] : List Keyword).isEmpty then 0 else 1) < 30)) = true := by rfl)
    (hline : (apos.endLine == cpos.line) = true := by rfl) (hs : starEach [e] X.env = (false, eval e X.env) :: starEach [] X.env := by rfl) (hplain : (backTo cpos (starEach [] X.env)).any (·.1) = false := by rfl) :
    DV X F (.Call (.Attribute o "index" apos) [e] [] cpos) (dIndex t u) :=
  imp (pe_bm PySem.F.plainAttrs_list PySem.F.slot_list_index PySem.F.type_list_index mt_index ho (pa_cons h pa_nil hs) hbase hfew hline hs hplain) fun σ H Q ⟨env, os, r, Q', q, f⟩ =>
    ⟨env, os, r, _, q, fun d e1 q v os1 H1 g1 dd => by
      cases dd with
      | lst h1 h2 =>
        rename_i b vs ds
        refine ⟨.inl ⟨rfl, _, hid_same.seq h1⟩, e1, os1, g1.r, _, q, fun d' e2 q v os2 H2 g2 dd' => ?_⟩
        obtain ⟨⟨f1, f2⟩, q⟩ := q
        have hs12 := g2.hs g1.r
        have h2' := h2.up hs12
        cases ej : idxD d' ds with
        | none => rw [ej] at q; exact q.elim
        | some j =>
          rw [ej] at q
          obtain ⟨e0, k1, k2, k3⟩ := idxD_spec ej
          obtain ⟨u0, k4, k5⟩ := h2'.put k1
          refine ⟨b, vs, v, j, u0, rfl, rfl, hid_same.seq (hs12.seq h1), by rw [dd'.flatV]; exact f1, by rw [h2'.flats]; exact f2, k4, by rw [k5.eqV dd']; exact k2, fun m z hm hz => ?_, f _ _ q _ os2 H2 (g1.trans r g2) (Dr.int _) trivial⟩
          obtain ⟨dz, k6, k7⟩ := h2'.get hz
          rw [k7.eqV dd']
          exact k3 m dz hm k6
      | _ => exact q.elim⟩
end
end DL
namespace DL
open PySem PySem.Spec PyProof.Rows L2 LL
/-- a def that may be called -/
structure FnT (P : Program) (w : World) (K : PySem.W.Frag) (mg : Str → Option Value) (base : Heap) (CX : CXT) (k : Nat) (x : Str) (f : Addr) (fd : FuncData) (ps : List Str) (sp : Sp) : Prop where
  ok : FnOk P w K mg base CX k f fd ps sp
  at_ : mg x = some (.ref f)
  kp : PySem.W.keepIn K (.ref f) = true
  bd : Binds K fd ps []
section
variable {X : Cx} {F : Fm} {e a b c : Expr} {es : List Expr} {p p2 pos tpos apos cpos : Pos} {x y z : Str} {ta tb tc : DTV}
theorem dadd (ha : DV X F a ta) (hb : DV X F b tb) : DV X F (.BinOp a .Add b pos) (dOp oAdd ta tb) := dv_op op_addA l_add ha hb
theorem dsub (ha : DV X F a ta) (hb : DV X F b tb) : DV X F (.BinOp a .Sub b pos) (dOp oSub ta tb) := dv_op op_sub (l_int0 fun _ _ _ => Dr.int _) ha hb
theorem dmul (ha : DV X F a ta) (hb : DV X F b tb) : DV X F (.BinOp a .Mult b pos) (dOp oMul ta tb) := dv_op op_mulW (l_int fun _ _ _ => Dr.int _) ha hb
theorem dmod (ha : DV X F a ta) (hb : DV X F b tb) : DV X F (.BinOp a .Mod b pos) (dOp oMod ta tb) := dv_op op_modN (l_int fun _ _ _ => Dr.int _) ha hb
theorem dfdiv (ha : DV X F a ta) (hb : DV X F b tb) : DV X F (.BinOp a .FloorDiv b pos) (dOp oDiv ta tb) := dv_op op_fdivZ (l_int fun _ _ _ => Dr.int _) ha hb
theorem dpow (ha : DV X F a ta) (hb : DV X F b tb) : DV X F (.BinOp a .Pow b pos) (dOp oPow ta tb) := dv_op op_pow (l_int fun _ _ _ => Dr.int _) ha hb
theorem dneg (ha : DV X F a ta) : DV X F (.UnaryOp .USub a pos) (dUn oNeg ta) := dv_un un_neg l_neg ha
theorem dlt (ha : DV X F a ta) (hb : DV X F b tb) : DV X F (.Compare a [.Lt] [b] pos) (dOp oLt ta tb) := dv_cmp op_lt (l_int0 fun _ _ _ => Dr.bl _) ha hb (nomark _)
theorem dle (ha : DV X F a ta) (hb : DV X F b tb) : DV X F (.Compare a [.LtE] [b] pos) (dOp oLe ta tb) := dv_cmp op_le (l_int0 fun _ _ _ => Dr.bl _) ha hb (nomark _)
theorem dgt (ha : DV X F a ta) (hb : DV X F b tb) : DV X F (.Compare a [.Gt] [b] pos) (dOp oGt ta tb) := dv_cmp op_gt (l_int0 fun _ _ _ => Dr.bl _) ha hb (nomark _)
theorem dge (ha : DV X F a ta) (hb : DV X F b tb) : DV X F (.Compare a [.GtE] [b] pos) (dOp oGe ta tb) := dv_cmp op_ge (l_int0 fun _ _ _ => Dr.bl _) ha hb (nomark _)
theorem deq (hu : X.A.units + 64 < cLine) (ha : DV X F a ta) (hb : DV X F b tb) : DV X F (.Compare a [.Eq] [b] pos) (dOp oEq ta tb) := dv_cmp (op_eqD hu) l_eq ha hb (nomark _)
theorem dne (hu : X.A.units + 64 < cLine) (ha : DV X F a ta) (hb : DV X F b tb) : DV X F (.Compare a [.NotEq] [b] pos) (dOp oNe ta tb) := dv_cmp (op_neD hu) l_ne ha hb (nomark _)
theorem din (ha : DV X F a ta) (hb : DV X F b tb) (hm : behindInMarks .In b = false := by rfl) : DV X F (.Compare a [.In] [b] pos) (dOp (oIn false) ta tb) := dv_cmp op_in_seq l_in ha hb hm
theorem dni (ha : DV X F a ta) (hb : DV X F b tb) (hm : behindInMarks .NotIn b = false := by rfl) : DV X F (.Compare a [.NotIn] [b] pos) (dOp (oIn true) ta tb) := dv_cmp op_notIn_seq l_in ha hb hm
theorem disN (ha : DV X F a ta) (hb : DV X F b tb) : DV X F (.Compare a [.Is] [b] pos) (dOp (oIsN false) ta tb) := dv_cmp op_isN l_isN ha hb (nomark _)
theorem dnotN (ha : DV X F a ta) (hb : DV X F b tb) : DV X F (.Compare a [.IsNot] [b] pos) (dOp (oIsN true) ta tb) := dv_cmp op_notN l_notN ha hb (nomark _)
theorem tlt (ha : DV X F a ta) (hb : DV X F b tb) : DT X F (.Compare a [.Lt] [b] pos) (dTst (dOp oLt ta tb)) := dt_cmp op_lt (l_int0 fun _ _ _ => Dr.bl _) ha hb (nomark _)
theorem tle (ha : DV X F a ta) (hb : DV X F b tb) : DT X F (.Compare a [.LtE] [b] pos) (dTst (dOp oLe ta tb)) := dt_cmp op_le (l_int0 fun _ _ _ => Dr.bl _) ha hb (nomark _)
theorem tgt (ha : DV X F a ta) (hb : DV X F b tb) : DT X F (.Compare a [.Gt] [b] pos) (dTst (dOp oGt ta tb)) := dt_cmp op_gt (l_int0 fun _ _ _ => Dr.bl _) ha hb (nomark _)
theorem tge (ha : DV X F a ta) (hb : DV X F b tb) : DT X F (.Compare a [.GtE] [b] pos) (dTst (dOp oGe ta tb)) := dt_cmp op_ge (l_int0 fun _ _ _ => Dr.bl _) ha hb (nomark _)
theorem teq (hu : X.A.units + 64 < cLine) (ha : DV X F a ta) (hb : DV X F b tb) : DT X F (.Compare a [.Eq] [b] pos) (dTst (dOp oEq ta tb)) := dt_cmp (op_eqD hu) l_eq ha hb (nomark _)
theorem tne (hu : X.A.units + 64 < cLine) (ha : DV X F a ta) (hb : DV X F b tb) : DT X F (.Compare a [.NotEq] [b] pos) (dTst (dOp oNe ta tb)) := dt_cmp (op_neD hu) l_ne ha hb (nomark _)
theorem tin (ha : DV X F a ta) (hb : DV X F b tb) (hm : behindInMarks .In b = false := by rfl) : DT X F (.Compare a [.In] [b] pos) (dTst (dOp (oIn false) ta tb)) := dt_cmp op_in_seq l_in ha hb hm
theorem tni (ha : DV X F a ta) (hb : DV X F b tb) (hm : behindInMarks .NotIn b = false := by rfl) : DT X F (.Compare a [.NotIn] [b] pos) (dTst (dOp (oIn true) ta tb)) := dt_cmp op_notIn_seq l_in ha hb hm
theorem tisN (ha : DV X F a ta) (hb : DV X F b tb) : DT X F (.Compare a [.Is] [b] pos) (dTst (dOp (oIsN false) ta tb)) := dt_cmp op_isN l_isN ha hb (nomark _)
theorem tnotN (ha : DV X F a ta) (hb : DV X F b tb) : DT X F (.Compare a [.IsNot] [b] pos) (dTst (dOp (oIsN true) ta tb)) := dt_cmp op_notN l_notN ha hb (nomark _)
theorem dix (ha : DV X F a ta) (hb : DV X F b tb) (hs : PlainIx b := by exact fun _ _ => rfl) : DV X F (.Subscript a b pos) (dOp oIx ta tb) := dv_ix ix_seq l_ix ha hb hs
/-- a op b op c of whole numbers -/
theorem dlele (ha : DV X F a ta) (hb : DV X F b tb) (hc : DV X F c tc) (hm : lastMarks [.LtE, .LtE] [b, c] = false := by with_unfolding_all rfl) : DV X F (.Compare a [.LtE, .LtE] [b, c] pos) (dChain oLe oLe ta tb tc) := dv_chain op_le op_le t_int0 t_int0 ha hb hc hm
theorem dlelt (ha : DV X F a ta) (hb : DV X F b tb) (hc : DV X F c tc) (hm : lastMarks [.LtE, .Lt] [b, c] = false := by with_unfolding_all rfl) : DV X F (.Compare a [.LtE, .Lt] [b, c] pos) (dChain oLe oLt ta tb tc) := dv_chain op_le op_lt t_int0 t_int0 ha hb hc hm
theorem tlele (ha : DV X F a ta) (hb : DV X F b tb) (hc : DV X F c tc) (hm : lastMarks [.LtE, .LtE] [b, c] = false := by with_unfolding_all rfl) : DT X F (.Compare a [.LtE, .LtE] [b, c] pos) (dTst (dChain oLe oLe ta tb tc)) := dt_chain op_le op_le t_int0 t_int0 ha hb hc hm
theorem tlelt (ha : DV X F a ta) (hb : DV X F b tb) (hc : DV X F c tc) (hm : lastMarks [.LtE, .Lt] [b, c] = false := by with_unfolding_all rfl) : DT X F (.Compare a [.LtE, .Lt] [b, c] pos) (dTst (dChain oLe oLt ta tb tc)) := dt_chain op_le op_lt t_int0 t_int0 ha hb hc hm
/-- a constant of the module -/
theorem de_glob {v : V} {u : Value} {d : D} (hm : X.mg x = some u) (hv : RelV v u) (q : ∀ H, Dr X.K H v d) (hg : Gl X x := by rfl) (hd : (x == ("__debug__" : Str)) = false := by decide) : DE X F (.Name x pos) (dC d) := de_c (pe_glob hg hm hv hd) q
variable {P : Program} {CX : CXT} {k j : Nat} {f : Addr} {fd : FuncData} {ps : List Str} {df : DF} {n : Nat}
theorem dcall {t : DTA} (T : FnT X.prog X.w X.K X.mg X.base CX0 k x f fd ps (spD X.K n df)) (hr : Room j X.A) (h : DA X F (e :: es) t) (hj : k ≤ j := by decide) (hg : Gl X x := by rfl) (hdb : (x == ("__debug__" : Str)) = false := by decide) (he : starEach (e :: es) X.env = (false, eval e X.env) :: starEach es X.env := by rfl) (hpl : (backTo pos (starEach es X.env)).any (·.1) = false := by rfl) :
    DE X F (.Call (.Name x p) (e :: es) [] pos) (dCall n df (fun _ => False) t) := de_call (E := fun _ _ _ => False) T.ok (hr.mono hj) T.at_ T.kp T.bd pass0 (fun _ z => z.elim) h hg hdb he hpl
theorem dcallB {t : DTA} {i : Nat} (T : FnT X.prog X.w X.K X.mg X.base CX0 k x f fd ps (spB X.K n df)) (hr : Room j X.A) (hv : PE X e (tVar i)) (h : DA X F es t) (hj : k ≤ j := by decide) (hg : Gl X x := by rfl) (hdb : (x == ("__debug__" : Str)) = false := by decide) (he : starEach (e :: es) X.env = (false, eval e X.env) :: starEach es X.env := by rfl) (hpl : (backTo pos (starEach es X.env)).any (·.1) = false := by rfl) :
    DE X F (.Call (.Name x p) (e :: es) [] pos) (dCallB i n df t) := de_callB T.ok (hr.mono hj) T.at_ T.kp T.bd pass0 hv h hg hdb he hpl
end
/-! ### reading isinstance -/
def noObj : D → Bool
  | .obj _ _ _ => false
  | _ => true
def isID : D → Bool
  | .int _ => true
  | _ => false
def isBD : D → Bool
  | .bl _ => true
  | _ => false
def isTD : D → Bool
  | .tup _ => true
  | _ => false
def isIBD : D → Bool
  | .int _ => true
  | .bl _ => true
  | _ => false
theorem isi_of {d : D} {T n : String} {b : Bool} {k : Rv → Prop} (h1 : tyD d = some n) (h2 : kitB n T = some b) (q : k (.dat (.bl b))) : oIsi T (.dat d) k := by
  show (match tyD d with | some n => (match kitB n T with | some b => k (.dat (.bl b)) | none => False) | none => False)
  rw [h1]
  dsimp only
  rw [h2]
  exact q
theorem isi_int {k : Rv → Prop} : ∀ {d : D}, noObj d = true → k (.dat (.bl (isIBD d))) → oIsi "int" (.dat d) k
  | .non, _, q => isi_of rfl (kit_int .none) q
  | .bl b, _, q => isi_of rfl (kit_int (.bool b)) q
  | .int i, _, q => isi_of rfl (kit_int (.int i)) q
  | .str x, _, q => isi_of rfl (kit_int (.str x)) q
  | .lst _, _, q => isi_of rfl (kit_int (.list [])) q
  | .tup _, _, q => isi_of rfl (kit_int (.tuple [])) q
  | .dct _ _, _, q => isi_of rfl (kit_int (.dict [])) q
theorem isi_bool {k : Rv → Prop} : ∀ {d : D}, noObj d = true → k (.dat (.bl (isBD d))) → oIsi "bool" (.dat d) k
  | .non, _, q => isi_of rfl (kit_bool .none) q
  | .bl b, _, q => isi_of rfl (kit_bool (.bool b)) q
  | .int i, _, q => isi_of rfl (kit_bool (.int i)) q
  | .str x, _, q => isi_of rfl (kit_bool (.str x)) q
  | .lst _, _, q => isi_of rfl (kit_bool (.list [])) q
  | .tup _, _, q => isi_of rfl (kit_bool (.tuple [])) q
  | .dct _ _, _, q => isi_of rfl (kit_bool (.dict [])) q
theorem isi_tuple {k : Rv → Prop} : ∀ {d : D}, noObj d = true → k (.dat (.bl (isTD d))) → oIsi "tuple" (.dat d) k
  | .non, _, q => isi_of rfl (kit_tuple .none) q
  | .bl b, _, q => isi_of rfl (kit_tuple (.bool b)) q
  | .int i, _, q => isi_of rfl (kit_tuple (.int i)) q
  | .str x, _, q => isi_of rfl (kit_tuple (.str x)) q
  | .lst _, _, q => isi_of rfl (kit_tuple (.list [])) q
  | .tup _, _, q => isi_of rfl (kit_tuple (.tuple [])) q
  | .dct _ _, _, q => isi_of rfl (kit_tuple (.dict [])) q
end DL
namespace DL
open PySem PySem.Spec PyProof.Rows L2 LL
theorem env0_1 {a : Str} {N : List Str} {d : D} : env0 (a :: N) [d] = Sl.dat d :: noS N.length := by unfold env0; simp
theorem env0_2 {a b : Str} {N : List Str} {d e : D} : env0 (a :: b :: N) [d, e] = Sl.dat d :: Sl.dat e :: noS N.length := by unfold env0; simp
theorem env0_3 {a b c : Str} {N : List Str} {d e f : D} : env0 (a :: b :: c :: N) [d, e, f] = Sl.dat d :: Sl.dat e :: Sl.dat f :: noS N.length := by unfold env0; simp
theorem envB_0 {a : Str} {N : List Str} {p : Addr} : envB p (a :: N) [] = Sl.bag p :: noS N.length := by unfold envB; simp
theorem envB_1 {a b : Str} {N : List Str} {p : Addr} {d : D} : envB p (a :: b :: N) [d] = Sl.bag p :: Sl.dat d :: noS N.length := by unfold envB; simp
theorem envB_2 {a b c : Str} {N : List Str} {p : Addr} {d e : D} : envB p (a :: b :: c :: N) [d, e] = Sl.bag p :: Sl.dat d :: Sl.dat e :: noS N.length := by unfold envB; simp
theorem envB_3 {a b c x : Str} {N : List Str} {p : Addr} {d e f : D} : envB p (a :: b :: c :: x :: N) [d, e, f] = Sl.bag p :: Sl.dat d :: Sl.dat e :: Sl.dat f :: noS N.length := by unfold envB; simp
theorem noS_0 : noS 0 = [] := rfl
theorem noS_s {n : Nat} : noS (n + 1) = Sl.no :: noS n := rfl
theorem atI_0 {α : Type} {x : α} {xs : List α} : L2.atI (x :: xs) 0 = some x := by unfold L2.atI ixN; simp
theorem atI_1 {α : Type} {x y : α} {xs : List α} : L2.atI (x :: y :: xs) 1 = some y := by
  unfold L2.atI ixN
  have h : (1 : Int) < ((x :: y :: xs).length : Int) := by simp only [List.length_cons]; omega
  rw [if_pos (by decide), if_pos h]
  rfl
theorem atI_2 {α : Type} {x y z : α} {xs : List α} : L2.atI (x :: y :: z :: xs) 2 = some z := by
  unfold L2.atI ixN
  have h : (2 : Int) < ((x :: y :: z :: xs).length : Int) := by simp only [List.length_cons]; omega
  rw [if_pos (by decide), if_pos h]
  rfl
theorem r_rel_dat {d : D} {k : D → Prop} : Rv.rel (.dat d) k = k (d) := rfl
theorem r_rel_new {ds : List D} {k : D → Prop} : Rv.rel (.new ds) k = k (.lst ds) := rfl
theorem r_rd_dat {d : D} {k : D → Prop} : Rv.rd (.dat d) k = k (d) := rfl
theorem r_rd_new {ds : List D} {k : D → Prop} : Rv.rd (.new ds) k = k (.lst ds) := rfl
theorem r_ret_dat {d : D} {k : D → Prop} : Rv.ret (.dat d) k = k (d) := rfl
theorem r_ret_new {ds : List D} {k : D → Prop} : Rv.ret (.new ds) k = k (.lst ds) := rfl
theorem r_rd_own {a : Addr} {ds : List D} {k : D → Prop} : Rv.rd (.own a ds) k = k (.lst ds) := rfl
theorem r_ret_own {a : Addr} {ds : List D} {k : D → Prop} : Rv.ret (.own a ds) k = k (.lst ds) := rfl
theorem r_seq_dl {ds : List D} {k : Bool → List D → Prop} : Rv.seq (.dat (.lst ds)) k = k false ds := rfl
theorem r_seq_dt {ds : List D} {k : Bool → List D → Prop} : Rv.seq (.dat (.tup ds)) k = k true ds := rfl
theorem r_seq_n {ds : List D} {k : Bool → List D → Prop} : Rv.seq (.new ds) k = k false ds := rfl
theorem r_seq_o {a : Addr} {ds : List D} {k : Bool → List D → Prop} : Rv.seq (.own a ds) k = k false ds := rfl
theorem r_items_dl {ds : List D} {k : List D → Prop} : Rv.items (.dat (.lst ds)) k = k ds := rfl
theorem r_items_dt {ds : List D} {k : List D → Prop} : Rv.items (.dat (.tup ds)) k = k ds := rfl
theorem r_items_n {ds : List D} {k : List D → Prop} : Rv.items (.new ds) k = k ds := rfl
theorem r_lis_n {ds : List D} {k : List D → Prop} : Rv.lis (.new ds) k = k ds := rfl
theorem r_lis_o {a : Addr} {ds : List D} {k : List D → Prop} : Rv.lis (.own a ds) k = k ds := rfl
theorem r_bool {b : Bool} {k : Bool → Prop} : Rv.bool (.dat (.bl b)) k = k b := rfl
theorem st_d {d : D} {e e' : Ev} : still (.dat d) e e' = True := rfl
theorem st_n {d : List D} {e e' : Ev} : still (.new d) e e' = True := rfl
theorem st_o {a : Addr} {d : List D} {e e' : Ev} : still (.own a d) e e' = (e' = e) := rfl
theorem sto_d {i : Nat} {d : D} {e : Ev} {Q : Ev → Prop} : dStore i (.dat d) e Q = Q (e.set i (.dat d)) := rfl
theorem sto_n {i : Nat} {ds : List D} {e : Ev} {Q : Ev → Prop} : dStore i (.new ds) e Q = ∀ a, Q (e.set i (.own a ds)) := rfl
theorem gt_t {n : Nat} {t : DTGs} {ds : List D} {e : Ev} {Q : Ev → Prop} : dgTup n t (.tup ds) e Q = (ds.length = n ∧ t ds e Q) := rfl
theorem gt_l {n : Nat} {t : DTGs} {ds : List D} {e : Ev} {Q : Ev → Prop} : dgLst n t (.lst ds) e Q = (ds.length = n ∧ t ds e Q) := rfl
theorem gc_c {t : DTG} {u : DTGs} {d : D} {ds : List D} {e : Ev} {Q : Ev → Prop} : dgCons t u (d :: ds) e Q = t d e fun e1 => u ds e1 Q := rfl
theorem gc_n {ds : List D} {e : Ev} {Q : Ev → Prop} : dgNil ds e Q = (ds = [] ∧ Q e) := rfl
theorem gn_n {i : Nat} {d : D} {e : Ev} {Q : Ev → Prop} : dName i d e Q = Q (e.set i (.dat d)) := rfl
theorem oa_ii {i j : Int} {k : Rv → Prop} : oAdd (.dat (.int i)) (.dat (.int j)) k = k (.dat (.int (i + j))) := rfl
theorem oa_ss {x y : Str} {k : Rv → Prop} : oAdd (.dat (.str x)) (.dat (.str y)) k = (x.length + y.length ≤ 1000 ∧ k (.dat (.str (x ++ y)))) := rfl
theorem oa_tt {as bs : List D} {k : Rv → Prop} : oAdd (.dat (.tup as)) (.dat (.tup bs)) k = (as.length + bs.length ≤ 1000 ∧ k (.dat (.tup (as ++ bs)))) := rfl
theorem oa_nn {as bs : List D} {k : Rv → Prop} : oAdd (.new as) (.new bs) k = (as.length + bs.length ≤ 1000 ∧ k (.new (as ++ bs))) := rfl
theorem oa_on {a : Addr} {as bs : List D} {k : Rv → Prop} : oAdd (.own a as) (.new bs) k = (as.length + bs.length ≤ 1000 ∧ k (.new (as ++ bs))) := rfl
theorem oi_ii {C : Int → Int → Prop} {g : Int → Int → D} {i j : Int} {k : Rv → Prop} : oInt C g (.dat (.int i)) (.dat (.int j)) k = (C i j ∧ k (.dat (g i j))) := rfl
theorem oj_ii {g : Int → Int → D} {i j : Int} {k : Rv → Prop} : oInt0 g (.dat (.int i)) (.dat (.int j)) k = k (.dat (g i j)) := rfl
theorem on_i {i : Int} {k : Rv → Prop} : oNeg (.dat (.int i)) k = k (.dat (.int (-i))) := rfl
theorem ob_i {i : Int} {k : Rv → Prop} : oAbs (.dat (.int i)) k = k (.dat (.int (if i < 0 then -i else i))) := rfl
theorem ot_i {i : Int} {k : Rv → Prop} : oToInt (.dat (.int i)) k = k (.dat (.int i)) := rfl
theorem ot_b {b : Bool} {k : Rv → Prop} : oToInt (.dat (.bl b)) k = k (.dat (.int (if b then 1 else 0))) := rfl
theorem os_i {i : Int} {k : Rv → Prop} : oStr (.dat (.int i)) k = (i.natAbs.log2 < 1920 ∧ k (.dat (.str (toString i)))) := rfl
theorem oin_d {neg : Bool} {d : D} {b : Rv} {k : Rv → Prop} : oIn neg (.dat d) b k = b.seq fun _ ds => (d.flat = true ∧ ds.all D.flat = true) ∧ k (.dat (.bl (if neg then !inD d ds else inD d ds))) := rfl
theorem ois_d {neg : Bool} {d : D} {k : Rv → Prop} : oIsN neg (.dat d) (.dat .non) k = k (.dat (.bl (if neg then !isNon d else isNon d))) := rfl
theorem oix_i {a : Rv} {i : Int} {k : Rv → Prop} : oIx a (.dat (.int i)) k = a.seq fun _ ds => match L2.atI ds i with | some d => k (.dat d) | none => False := rfl
theorem eq_v {a b : Rv} {k : Rv → Prop} : oEq a b k = a.rd fun d => b.rd fun e => eqOk d = true ∧ eqOk e = true ∧ k (.dat (.bl (PyData.eqv d.py e.py))) := rfl
theorem ne_v {a b : Rv} {k : Rv → Prop} : oNe a b k = a.rd fun d => b.rd fun e => eqOk d = true ∧ eqOk e = true ∧ k (.dat (.bl (!PyData.eqv d.py e.py))) := rfl
theorem ds_i {t : DTE} {e : Ev} {Q : Option Int → Ev → Prop} : doSome t e Q = t e fun d e1 => match d with | .int i => Q (some i) e1 | _ => False := rfl
theorem rg1_i {t : DTA} {e : Ev} {Q : List D → Ev → Prop} : diRg1 t e Q = t e fun ds e1 => match ds with | [.int j] => -1000000 ≤ j ∧ j ≤ 1000000 ∧ Q (rgD 0 j.toNat) e1 | _ => False := rfl
theorem eqOk_int {i : Int} : eqOk (.int i) = true := by simp [eqOk, D.flatd, D.py, SeqAt.shaped, PyData.canLay0, PyData.depth]
theorem eqOk_str {i : Str} (h : PyData.strOk i = true) : eqOk (.str i) = true := by simp [eqOk, D.flatd, D.py, SeqAt.shaped, PyData.canLay0, PyData.depth, h]
theorem eqOk_l0 : eqOk (.lst []) = true := by simp [eqOk, D.flatd, D.flatds, D.py, D.pys, SeqAt.shaped, PyData.canLay0, PyData.canLayAll0, PyData.depth, PyData.depthAll]
theorem eqv_int {i j : Int} : PyData.eqv (D.int i).py (D.int j).py = decide (i = j) := by
  simp only [D.py, PyData.eqv]
  by_cases h : i = j <;> simp [h]
theorem eqv_str {i j : Str} : PyData.eqv (D.str i).py (D.str j).py = decide (i = j) := by
  simp only [D.py, PyData.eqv]
  by_cases h : i = j <;> simp [h]
theorem eqv_l0 {ds : List D} : PyData.eqv (D.lst ds).py (D.lst []).py = ds.isEmpty := by
  cases ds <;> simp [D.py, D.pys, PyData.eqv, PyData.eqvAll]
theorem wip_0 {e : Ev} : wipeE e [] = e := rfl
theorem wip_c {e : Ev} {v : Nat} {vs : List Nat} : wipeE e (v :: vs) = (wipeE e vs).set v .no := rfl
end DL
namespace DL
open PySem PySem.Spec PyProof.Rows L2 LL
theorem while_d {c : DTT} {tb : DTS} {D : DEnds} {env : Ev} (I : Ev → Prop) (μ : Ev → Nat) (h0 : I env)
    (h : ∀ env, I env → c env fun b e1 => if b = true then ∃ N : Ev → Prop, (∀ e, N e → ∃ m', m' < μ env ∧ (I e ∧ m' = μ e)) ∧ tb { D with nx := N, ct := N, bk := D.nx } e1 else D.nx e1) : dWhile c tb D env :=
  ⟨fun m e => I e ∧ m = μ e, ⟨_, h0, rfl⟩, fun m e ⟨hi, hm⟩ => by subst hm; exact h e hi⟩
theorem next_d {μ : Ev → Nat} {I : Ev → Prop} {m : Nat} {P : (Ev → Prop) → Prop} (h : P fun e => I e ∧ μ e < m) : ∃ N : Ev → Prop, (∀ e, N e → ∃ m', m' < m ∧ (I e ∧ m' = μ e)) ∧ P N := ⟨_, fun e ⟨h1, h2⟩ => ⟨_, h2, h1, rfl⟩, h⟩
end DL
local macro_rules
  | `(tactic| decreasing_trivial_pre_omega) => `(tactic| simp only [DL.dRet, DL.dIf, DL.dSeq, DL.dNext, DL.dDrop, DL.dSet, DL.dOwn, DL.dAsg, DL.dPar2, DL.dPar3, DL.dSetLc, DL.dVar, DL.dC, DL.dDat, DL.dRel, DL.dNil, DL.dCons, DL.dOp, DL.dUn, DL.dTst, DL.dNot, DL.dAnd, DL.dOr, DL.dAndV, DL.dOrV, DL.dNotV, DL.dIfE, DL.dTup, DL.dLst, DL.dCall, DL.dCallB, DL.dChain, DL.dYes, DL.dApp, DL.dPopAt, DL.dPop, DL.dExt, DL.dIndex, DL.dTru, DL.doNone, DL.dSl, DL.dLstRg, DL.diEn, DL.diZip, DL.diSeq, DL.diRg2, DL.oLen, DL.oList, DL.oTuple, DL.isBag, DL.dEnds, DL.bEnds, DL.ownAt, DL.r_rel_dat, DL.r_rel_new, DL.r_rd_dat, DL.r_rd_new, DL.r_ret_dat, DL.r_ret_new, DL.r_rd_own, DL.r_ret_own, DL.r_seq_dl, DL.r_seq_dt, DL.r_seq_n, DL.r_seq_o, DL.r_items_dl, DL.r_items_dt, DL.r_items_n, DL.r_lis_n, DL.r_lis_o, DL.r_bool, DL.st_d, DL.st_n, DL.st_o, DL.sto_d, DL.sto_n, DL.gt_t, DL.gt_l, DL.gc_c, DL.gc_n, DL.gn_n, DL.oa_ii, DL.oa_ss, DL.oa_tt, DL.oa_nn, DL.oa_on, DL.oi_ii, DL.oj_ii, DL.on_i, DL.ob_i, DL.ot_i, DL.ot_b, DL.os_i, DL.oin_d, DL.ois_d, DL.oix_i, DL.eq_v, DL.ne_v, DL.ds_i, DL.rg1_i, DL.eqOk_int, DL.eqOk_l0, DL.eqv_int, DL.eqv_str, DL.eqv_l0, DL.wip_0, DL.wip_c, List.map_cons, List.map_nil, DL.env0_1, DL.env0_2, DL.env0_3, DL.envB_0, DL.envB_1, DL.envB_2, DL.envB_3, DL.noS_0, DL.noS_s, List.length_cons, List.length_nil, Nat.zero_add, List.getElem?_cons_zero, List.getElem?_cons_succ, List.set_cons_zero, List.set_cons_succ, DL.atI_0, DL.atI_1, DL.atI_2, true_and, and_true, if_true, if_false, Bool.false_eq_true, ite_true, ite_false, Bool.not_true, Bool.not_false, Bool.not_eq_true', decide_eq_true_eq, decide_eq_false_iff_not, ne_eq, not_false_eq_true, reduceCtorEq])
local macro_rules
  | `(tactic| clean_wf) => `(tactic| simp only [DL.dRet, DL.dNext, DL.dDrop, DL.dSet, DL.dOwn, DL.dAsg, DL.dPar2, DL.dPar3, DL.dSetLc, DL.dVar, DL.dC, DL.dDat, DL.dRel, DL.dNil, DL.dCons, DL.dOp, DL.dUn, DL.dTst, DL.dNot, DL.dAnd, DL.dOr, DL.dAndV, DL.dOrV, DL.dNotV, DL.dIfE, DL.dTup, DL.dLst, DL.dCall, DL.dCallB, DL.dChain, DL.dYes, DL.dApp, DL.dPopAt, DL.dPop, DL.dExt, DL.dIndex, DL.dTru, DL.doNone, DL.dSl, DL.dLstRg, DL.diEn, DL.diZip, DL.diSeq, DL.diRg2, DL.oLen, DL.oList, DL.oTuple, DL.isBag, DL.dEnds, DL.bEnds, DL.ownAt, DL.r_rel_dat, DL.r_rel_new, DL.r_rd_dat, DL.r_rd_new, DL.r_ret_dat, DL.r_ret_new, DL.r_rd_own, DL.r_ret_own, DL.r_seq_dl, DL.r_seq_dt, DL.r_seq_n, DL.r_seq_o, DL.r_items_dl, DL.r_items_dt, DL.r_items_n, DL.r_lis_n, DL.r_lis_o, DL.r_bool, DL.st_d, DL.st_n, DL.st_o, DL.sto_d, DL.sto_n, DL.gt_t, DL.gt_l, DL.gc_c, DL.gc_n, DL.gn_n, DL.oa_ii, DL.oa_ss, DL.oa_tt, DL.oa_nn, DL.oa_on, DL.oi_ii, DL.oj_ii, DL.on_i, DL.ob_i, DL.ot_i, DL.ot_b, DL.os_i, DL.oin_d, DL.ois_d, DL.oix_i, DL.eq_v, DL.ne_v, DL.ds_i, DL.rg1_i, DL.eqOk_int, DL.eqOk_l0, DL.eqv_int, DL.eqv_str, DL.eqv_l0, DL.wip_0, DL.wip_c, List.map_cons, List.map_nil, DL.env0_1, DL.env0_2, DL.env0_3, DL.envB_0, DL.envB_1, DL.envB_2, DL.envB_3, DL.noS_0, DL.noS_s, List.length_cons, List.length_nil, Nat.zero_add, List.getElem?_cons_zero, List.getElem?_cons_succ, List.set_cons_zero, List.set_cons_succ, DL.atI_0, DL.atI_1, DL.atI_2, true_and, and_true, if_true, if_false, Bool.false_eq_true, ite_true, ite_false, Bool.not_true, Bool.not_false, Bool.not_eq_true', decide_eq_true_eq, decide_eq_false_iff_not, ne_eq, not_false_eq_true, reduceCtorEq])
namespace DL
open PySem PySem.Spec PyProof.Rows L2 LL
/-! ### reading, statement by statement -/
theorem seq_d {t u : DTS} {D : DEnds} {env : Ev} (h : ∀ N : Ev → Prop, (∀ e, u D e → N e) → t { D with nx := N } env) : dSeq t u D env := h (u D) fun _ q => q
theorem if_d {c : DTT} {t u : DTS} {D : DEnds} {env : Ev} (h : ∀ T U : Ev → Prop, (∀ e, t D e → T e) → (∀ e, u D e → U e) → c env fun b e1 => if b = true then T e1 else U e1) : dIf c t u D env := h (t D) (u D) (fun _ q => q) fun _ q => q
/-! ### reading comprehensions and loops -/
def LcG (g : DTG) (tt : DTT) (te : DTE) (vs : List Nat) (ds : List D) (e1 : Ev) (Q : Rv → Ev → Prop) : Prop := noAd e1 vs ∧ ds.length ≤ 1000 ∧ ∃ I : Nat → List D → Prop, I 0 [] ∧
  (∀ i d acc, ds[i]? = some d → acc.length ≤ i → I i acc → g d (wipeE e1 vs) fun e2 => (wipeE e2 vs = wipeE e1 vs ∧ noAd e2 vs) ∧ tt e2 fun b e3 => e3 = e2 ∧ if b = true then te e3 fun d' e4 => e4 = e2 ∧ I (i + 1) (acc ++ [d']) else I (i + 1) acc) ∧ ∀ acc, acc.length ≤ ds.length → I ds.length acc → Q (.new acc) e1
theorem dLc_eq {ti : DTI} {g : DTG} {tt : DTT} {te : DTE} {vs : List Nat} {env : Ev} {Q : Rv → Ev → Prop} : dLc ti g tt te vs env Q = ti env fun ds e1 => LcG g tt te vs ds e1 Q := rfl
/-- one turn: what is put behind, if anything -/
def LcT (g : DTG) (tt : DTT) (te : DTE) (vs : List Nat) (e1 : Ev) (d : D) (k : Option D → Prop) : Prop :=
  g d (wipeE e1 vs) fun e2 => (wipeE e2 vs = wipeE e1 vs ∧ noAd e2 vs) ∧ tt e2 fun b e3 => e3 = e2 ∧ if b = true then te e3 fun d' e4 => e4 = e2 ∧ k (some d') else k none
/-- a comprehension that is a function of its items -/
theorem lc_fm {g : DTG} {tt : DTT} {te : DTE} {vs : List Nat} {ds : List D} {e1 : Ev} {Q : Rv → Ev → Prop} (f : D → Option D) (na : noAd e1 vs) (hl : ds.length ≤ 1000) (turn : ∀ d ∈ ds, ∀ k : Option D → Prop, k (f d) → LcT g tt te vs e1 d k) (fin : Q (.new (ds.filterMap f)) e1) : LcG g tt te vs ds e1 Q := by
  refine ⟨na, hl, fun i acc => acc = (ds.take i).filterMap f, by simp, fun i d acc hd _ ha => ?_, fun acc _ ha => by
    have ha : acc = (ds.take ds.length).filterMap f := ha
    rw [List.take_length] at ha
    rw [ha]
    exact fin⟩
  have m := List.mem_of_getElem? hd
  have e : (ds.take (i + 1)).filterMap f = (ds.take i).filterMap f ++ (match f d with | some x => [x] | none => []) := by
    rw [List.take_add_one, hd]
    rw [Option.toList_some, List.filterMap_append]
    congr 1
    rw [List.filterMap_cons]
    cases f d <;> rfl
  have := turn d m (fun o => match o with | some d' => acc ++ [d'] = (ds.take (i + 1)).filterMap f | none => acc = (ds.take (i + 1)).filterMap f) (by
    have ha : acc = (ds.take i).filterMap f := ha
    rw [e, ha]
    cases f d <;> simp)
  exact this
/-- .. each item of which gives one -/
theorem lc_map {g : DTG} {tt : DTT} {te : DTE} {vs : List Nat} {ds : List D} {e1 : Ev} {Q : Rv → Ev → Prop} (f : D → D) (na : noAd e1 vs) (hl : ds.length ≤ 1000) (turn : ∀ d ∈ ds, ∀ k : Option D → Prop, k (some (f d)) → LcT g tt te vs e1 d k) (fin : Q (.new (ds.map f)) e1) : LcG g tt te vs ds e1 Q :=
  lc_fm (fun d => some (f d)) na hl turn (by rw [show ds.filterMap (fun d => some (f d)) = ds.map f by rw [← List.filterMap_eq_map]; rfl]; exact fin)
/-- .. that keeps some -/
theorem lc_fil {g : DTG} {tt : DTT} {te : DTE} {vs : List Nat} {ds : List D} {e1 : Ev} {Q : Rv → Ev → Prop} (p : D → Bool) (na : noAd e1 vs) (hl : ds.length ≤ 1000) (turn : ∀ d ∈ ds, ∀ k : Option D → Prop, k (if p d = true then some d else none) → LcT g tt te vs e1 d k) (fin : Q (.new (ds.filter p)) e1) : LcG g tt te vs ds e1 Q :=
  lc_fm (fun d => if p d = true then some d else none) na hl turn (by
    have e : ds.filterMap (fun d => if p d = true then some d else none) = ds.filter p := by
      clear turn fin hl
      induction ds with
      | nil => rfl
      | cons d ds ih => by_cases h : p d = true <;> simp [h, ih]
    rw [e]; exact fin)
theorem oal_n {f : List Bool → Bool} {bs : List Bool} {k : Rv → Prop} : oAll f (.new (bs.map D.bl)) k = k (.dat (.bl (f bs))) := by
  show (match boolsOf (bs.map D.bl) with | some bs => k (.dat (.bl (f bs))) | none => False) = _
  rw [boolsOf_map]
theorem osrt_n {ns : List Int} {k : Rv → Prop} : oSorted (.new (ns.map D.int)) k = k (.new ((sortI ns).map D.int)) := by
  show (match intsOf (ns.map D.int) with | some ns => k (.new ((sortI ns).map D.int)) | none => False) = _
  rw [intsOf_map]
theorem osrt_t {ns : List Int} {k : Rv → Prop} : oSorted (.dat (.tup (ns.map D.int))) k = k (.new ((sortI ns).map D.int)) := by
  show (match intsOf (ns.map D.int) with | some ns => k (.new ((sortI ns).map D.int)) | none => False) = _
  rw [intsOf_map]
theorem cut_1 {ds : List D} : cutD ds (some 1) none = ds.tail := by
  cases ds with
  | nil => rfl
  | cons d ds =>
    have e : HT.sIx (d :: ds).length 0 (some 1) = 1 := by
      rw [show (some 1 : Option Int) = some ((1 : Nat) : Int) from rfl, HT.sIx_nat, List.length_cons]
      omega
    unfold cutD
    rw [e, HT.sIx_none]
    simp
theorem lay_ints : ∀ ns : List Int, PyData.canLayAll0 (D.pys (ns.map D.int)) = true ∧ PyData.depthAll (D.pys (ns.map D.int)) ≤ 1 ∧ D.flatds (ns.map D.int) = true
  | [] => ⟨rfl, by simp [D.pys, PyData.depthAll], rfl⟩
  | n :: ns => by
    obtain ⟨h1, h2, h3⟩ := lay_ints ns
    refine ⟨?_, ?_, ?_⟩
    · simp [D.pys, D.py, PyData.canLayAll0, PyData.canLay0, h1]
    · simp [D.pys, D.py, PyData.depthAll, PyData.depth]
      exact h2
    · simp [D.flatds, D.flatd, h3]
theorem eqOk_ints (ns : List Int) : eqOk (.lst (ns.map D.int)) = true := by
  obtain ⟨h1, h2, h3⟩ := lay_ints ns
  unfold eqOk SeqAt.shaped
  simp [D.flatd, h3, D.py, PyData.canLay0, h1, PyData.depth]
  omega
/-! numbers of at most two hundred bits, no objects -/
mutual
def D.small : D → Bool
  | .int i => decide (i.natAbs < 2 ^ 200)
  | .lst ds => decide (ds.length ≤ 1000) && D.smalls ds
  | .tup ds => decide (ds.length ≤ 1000) && D.smalls ds
  | .dct _ ds => D.smalls ds
  | .obj _ _ _ => false
  | _ => true
def D.smalls : List D → Bool
  | [] => true
  | d :: ds => d.small && D.smalls ds
end
theorem smalls_mem {d : D} : ∀ {ds : List D}, D.smalls ds = true → d ∈ ds → d.small = true
  | e :: es, h, m => by
    have z := Bool.and_eq_true_iff.mp h
    rcases List.mem_cons.mp m with rfl | m
    · exact z.1
    · exact smalls_mem z.2 m
theorem smalls_of : ∀ {ds : List D}, (∀ d ∈ ds, d.small = true) → D.smalls ds = true
  | [], _ => rfl
  | d :: ds, h => Bool.and_eq_true_iff.mpr ⟨h d List.mem_cons_self, smalls_of fun e m => h e (List.mem_cons_of_mem _ m)⟩
theorem small_no {d : D} (h : d.small = true) : noObj d = true := by cases d <;> first | rfl | cases h
theorem small_tup {ds : List D} (h : (D.tup ds).small = true) : ds.length ≤ 1000 ∧ D.smalls ds = true := by
  have z := Bool.and_eq_true_iff.mp h
  exact ⟨of_decide_eq_true z.1, z.2⟩
theorem small_lst {ds : List D} (h : (D.lst ds).small = true) : ds.length ≤ 1000 ∧ D.smalls ds = true := by
  have z := Bool.and_eq_true_iff.mp h
  exact ⟨of_decide_eq_true z.1, z.2⟩
theorem small_bd {i : Int} (h : (D.int i).small = true) : i.natAbs < 2 ^ 200 := of_decide_eq_true h
end DL
namespace DL
open PySem PySem.Spec PyProof.Rows L2 LL
section
variable {X : Cx} {F : Fm} {a b : Expr} {pos : Pos} {x y : Str}
theorem still_refl {rv : Rv} {e : Ev} : still rv e e := by cases rv <;> first | rfl | trivial
/-- a, b = e1, e2, where a comprehension reads one of them -/
theorem ds_tup2 {i j : Nat} {ta tb : DTV} {px py pt : Pos} {kt k2 : Nat} {pt2 : Pos} (hc : X.calm = true) (hN : X.N.Nodup) (ha : DV X F a ta) (hb : DV X F b tb) (hi : X.N[i]? = some x := by rfl) (hj : X.N[j]? = some y := by rfl)
    (hx : Loc X.env.scope x := by first | exact .inl rfl | exact .inr rfl) (hy : Loc X.env.scope y := by first | exact .inl rfl | exact .inr rfl) (hfx : X.fn x = true ∨ X.env.scope.names.lookup x = some .local := by first | exact .inl rfl | exact .inr rfl | assumption) (hfy : X.fn y = true ∨ X.env.scope.names.lookup y = some .local := by first | exact .inl rfl | exact .inr rfl | assumption)
    (h1 : starEach [a, b] X.env = (false, eval a X.env) :: starEach [b] X.env := by rfl) (h2 : starEach [b] X.env = (false, eval b X.env) :: starEach [] X.env := by rfl)
    (g1 : (assignEach [.Name x px, .Name y py] X.env).map (·.2) = assign (.Name x px) X.env :: (assignEach [.Name y py] X.env).map (·.2) := by rfl) (g2 : (assignEach [.Name y py] X.env).map (·.2) = assign (.Name y py) X.env :: (assignEach [] X.env).map (·.2) := by rfl)
    (gn : (assignEach [.Name x px, .Name y py] X.env).length = 2 := by rfl) (gs : (assignEach [.Name x px, .Name y py] X.env).findIdx? (·.1) = none := by rfl)
    (hs : swapsWithSole [.Tuple [.Name x px, .Name y py] kt pt] (.Tuple [a, b] k2 pt2) pos.line X.env = pure false := by rfl) (hw : swappedStores [.Tuple [.Name x px, .Name y py] kt pt] (.Tuple [a, b] k2 pt2) X.env = pure none := by rfl)
    (ht : (assignEach [.Tuple [.Name x px, .Name y py] kt pt] X.env).map (·.2) = [assign (.Tuple [.Name x px, .Name y py] kt pt) X.env] := by rfl) :
    DS X F (.Assign [.Tuple [.Name x px, .Name y py] kt pt] (.Tuple [a, b] k2 pt2) pos) (dPar2 i j ta tb) :=
  impS (ps_asg (pe_tup (pa_cons ha (pa_cons hb pa_nil h2) h1)) (pg_tup hc (pgs_cons (pg_name hN hi hx hfx) (pgs_cons (pg_name hN hj hy hfy) pgs_nil g2) g1) gn gs) hs hw ht) fun D σ H ⟨env, os, r, D', q, w⟩ =>
    ⟨env, os, r, _, q, fun ra e1 q v os1 H1 g1 hd1 n1 => ⟨e1, os1, g1.r, _, q, fun rb e2 ⟨st, q2⟩ u os2 H2 g2 hd2 n2 => ⟨by show 2 ≤ sizeLine; decide, fun p np => ⟨p, [v, u], rfl, .inl (.inl upd_same), rfl, v, [u], rfl, u, [], rfl, rfl, by
      have gp : Go X.K F σ os2 H2 e2 os2 (upd H2 p (.tup [v, u])) e2 := Go.same g2.r (same_new np)
      have hd1' := (hd1.go g1.r g2 st).go g2.r gp still_refl
      have hd2' := hd2.go g2.r gp still_refl
      have nb : ∀ a bs, rb ≠ .own a bs := fun a bs z => by
        subst z
        cases ra with
        | dat d => exact q2
        | own a ds => exact q2
        | new ds => exact q2 0
      obtain ⟨e3, q3, r3, hd3⟩ := Hd.after gp.r hd1' hd2' (fun pq f1 f2 as bs ea eb => by
        subst ea eb
        obtain ⟨p1, _, ep, m1, _⟩ := hd1
        exact n2 pq f2 (by rw [f1] at ep; cases ep; exact m1)) nb q2
      obtain ⟨e4, q4, r4⟩ := r3.store hd3 q3
      exact w.nx _ q4 os2 _ _ r4⟩⟩⟩⟩
end
end DL
namespace DL
open PySem PySem.Spec PyProof.Rows L2 LL
section
variable {X : Cx} {F : Fm} {C : Addr} {x n n2 : Str} {a b e : Expr} {es : List Expr} {ta : TA} {p pos pos2 : Pos} {k : Nat}
def tMkY (C : Addr) (n n2 : Str) (ta : TA) : L2.St → Hp → XK → Prop := fun σ H Q => ta σ H fun vs H1 => ∃ v v2, vs = [v, v2] ∧ ∀ d, H1 d = none → Q (.ref C) (some d) (upd H1 d (.xd [(n2, v2), (n, v)]))
theorem pmk_er2 (T : Er2 X.K X.mg x n n2 C) (rs : Raises X (.ref C)) (hr : Room k X.A) (ha : PA X [a, b] ta) (hg : Gl X x := by rfl) (hdb : (x == ("__debug__" : Str)) = false := by decide)
    (he : starEach [a, b] X.env = (false, eval a X.env) :: starEach [b] X.env := by rfl) (hpl : (backTo pos (starEach [b] X.env)).any (·.1) = false := by rfl) :
    PMk X (.Call (.Name x p) [a, b] [] pos) (tMkY C n n2 ta) := by
  intro pins s σ H Q I h
  refine wpAny_Call_Name_kw (ld_glob I hg T.gC ?_ hdb)
  refine PySem.W.callWith_K (h₀ := X.base) I.ok.mod.kin T.kp (thn (ha.run pos pins s σ H _ I h) ?_) he hpl
  rintro us s1 ⟨vs, H1, I1, r1, v, v2, rfl, q⟩
  obtain ⟨u, u2, rfl, ru, ru2⟩ := vals2 r1
  refine ⟨I1.kIn, wpAny_call (T.run I1.kIn I1.nolimit (by have := hr.dp; omega) ?_)⟩
  intro h' tk e d M
  obtain ⟨hp, g, dr, t, os⟩ := s1
  obtain ⟨t1, ho⟩ := M.obj
  obtain ⟨G, g1, g2⟩ := restrict h' fun b => decide (b ≠ e)
  have gk : ∀ b, b ≠ e → G.get? b = h'.get? b := fun b hb => g1 b (decide_eq_true hb)
  have ge : G.get? e = none := g2 e (by simp)
  have old : ∀ b o, hp.get? b = some o → G.get? b = some o := fun b o z => (gk b (Nat.ne_of_lt (Nat.lt_of_lt_of_le (Heap.lt_size z) M.big))).trans (M.keep b o z)
  have rel : ∀ f, RelO (List.lookup f [(n2, v2), (n, v)]) (if f = n2 then some u2 else if f = n then some u else none) := relO_put ru2 (relO_put (fs := []) (mA := fun _ => none) ru fun f => True.intro)
  have ob : ObjOk X.prog X.w (upd H1 d (.xd [(n2, v2), (n, v)])) G d (.xd [(n2, v2), (n, v)]) := ⟨_, M.ns.at (fun o z => (gk d M.ne).trans z), rel⟩
  have J : Inv X pins σ (upd H1 d (.xd [(n2, v2), (n, v)])) ⟨G, g, dr, tk, os⟩ := I1.laid (t' := tk) old M.dbig ob
  refine ⟨e, _, _, ⟨G, g, dr, tk, os⟩, _, .ref C, some d, rfl, J, ?_, ge, ho, ⟨rfl, rfl⟩, rfl, rfl, ?_, rfl, I1.bare, rs, q d (I1.hok.fresh M.dbig)⟩
  · intro b o z
    by_cases hb : b = e
    · have z' : G.get? b = some o := z
      rw [hb, ge] at z'
      cases z'
    · exact (gk b hb).symm.trans z
  · rw [upd_ne (Ne.symm M.ne)]
    exact I1.hok.fresh M.big
/-- raise C(a, b) -/
def dRaise2 (C : Addr) (n n2 : Str) (xr : Er → Prop) (t : DTA) : DTS := fun _ env => t env fun ds _ => match ds with
  | [d1, d2] => xr ⟨C, [n2, n], [d2, d1]⟩
  | _ => False
theorem ds_raise2 {E : XK} {xr : Er → Prop} {t : DTA} (T : Er2 X.K X.mg x n n2 C) (rs : Raises X (.ref C)) (hc : X.calm = true) (tk : Takes X (fun cls d _ H => E cls d H)) (hr : Room k X.A) (hE : ExR X.K F E xr) (h : DA X F [a, b] t) (hg : Gl X x := by rfl) (hdb : (x == ("__debug__" : Str)) = false := by decide)
    (he : starEach [a, b] X.env = (false, eval a X.env) :: starEach [b] X.env := by rfl) (hpl : (backTo pos (starEach [b] X.env)).any (·.1) = false := by rfl) :
    DS X F (.Raise (some (.Call (.Name x p) [a, b] [] pos)) none pos2) (dRaise2 C n n2 xr t) :=
  impS (ps_raise hc tk (pmk_er2 T rs hr h hg hdb he hpl)) fun D σ H ⟨env, os, r, D', q, w⟩ =>
    ⟨env, os, r, _, q, fun ds e1 q vs os1 H1 g1 dd => by
      match ds, q, dd with
      | [d1, d2], q, .cons h1 (.cons h2 .nil) =>
        refine ⟨_, _, rfl, fun d nd => hE _ q σ e1 os1 H1 g1.r d _ [_, _] (fun c o _ z => same_new nd _ _ z) (fun b hb => by cases hb) (hid_at upd_same fun m => g1.r.off nd m) rfl ?_⟩
        exact .cons (h2.up (hid_up (same_new nd))) (.cons (h1.up (hid_up (same_new nd))) .nil)⟩
/-- a call of what may raise, in a def that lets it out -/
theorem dcallX {P : Program} {j m : Nat} {f : Addr} {fd : FuncData} {ps : List Str} {df : DF} {E : XK} {xr : Er → Prop} {t : DTA} (Tc : FnT X.prog X.w X.K X.mg X.base (L2.CX X.prog X.w) k x f fd ps (spD X.K m df)) (hr : Room j X.A) (tk : Takes X (fun cls d _ H => E cls d H)) (hE : ExR X.K F E xr) (h : DA X F (e :: es) t) (hj : k ≤ j := by decide) (hg : Gl X x := by rfl) (hdb : (x == ("__debug__" : Str)) = false := by decide) (he : starEach (e :: es) X.env = (false, eval e X.env) :: starEach es X.env := by rfl) (hpl : (backTo pos (starEach es X.env)).any (·.1) = false := by rfl) :
    DE X F (.Call (.Name x p) (e :: es) [] pos) (dCall m df xr t) := de_call (E := E) Tc.ok (hr.mono hj) Tc.at_ Tc.kp Tc.bd (passes_call tk fun _ _ _ _ h => h) hE h hg hdb he hpl
end
end DL
namespace DL
open PySem PySem.Spec PyProof.Rows L2 LL
section
variable {X : Cx} {F : Fm} {a b c : Expr} {pos : Pos} {x y z : Str}
/-- a, b, c = e1, e2, e3, where a comprehension reads one of them -/
theorem ds_tup3 {i j l : Nat} {ta tb : DTE} {tc : DTV} {px py pz pt : Pos} {kt k2 : Nat} {pt2 : Pos} (hc : X.calm = true) (hN : X.N.Nodup) (ha : DE X F a ta) (hb : DE X F b tb) (hcc : DV X F c tc) (hi : X.N[i]? = some x := by rfl) (hj : X.N[j]? = some y := by rfl) (hl : X.N[l]? = some z := by rfl)
    (hx : Loc X.env.scope x := by first | exact .inl rfl | exact .inr rfl) (hy : Loc X.env.scope y := by first | exact .inl rfl | exact .inr rfl) (hz : Loc X.env.scope z := by first | exact .inl rfl | exact .inr rfl) (hfx : X.fn x = true ∨ X.env.scope.names.lookup x = some .local := by first | exact .inl rfl | exact .inr rfl | assumption) (hfy : X.fn y = true ∨ X.env.scope.names.lookup y = some .local := by first | exact .inl rfl | exact .inr rfl | assumption) (hfz : X.fn z = true ∨ X.env.scope.names.lookup z = some .local := by first | exact .inl rfl | exact .inr rfl | assumption)
    (h1 : starEach [a, b, c] X.env = (false, eval a X.env) :: starEach [b, c] X.env := by rfl) (h2 : starEach [b, c] X.env = (false, eval b X.env) :: starEach [c] X.env := by rfl) (h3 : starEach [c] X.env = (false, eval c X.env) :: starEach [] X.env := by rfl)
    (g1 : (assignEach [.Name x px, .Name y py, .Name z pz] X.env).map (·.2) = assign (.Name x px) X.env :: (assignEach [.Name y py, .Name z pz] X.env).map (·.2) := by rfl) (g2 : (assignEach [.Name y py, .Name z pz] X.env).map (·.2) = assign (.Name y py) X.env :: (assignEach [.Name z pz] X.env).map (·.2) := by rfl) (g3 : (assignEach [.Name z pz] X.env).map (·.2) = assign (.Name z pz) X.env :: (assignEach [] X.env).map (·.2) := by rfl)
    (gn : (assignEach [.Name x px, .Name y py, .Name z pz] X.env).length = 3 := by rfl) (gs : (assignEach [.Name x px, .Name y py, .Name z pz] X.env).findIdx? (·.1) = none := by rfl)
    (hs : swapsWithSole [.Tuple [.Name x px, .Name y py, .Name z pz] kt pt] (.Tuple [a, b, c] k2 pt2) pos.line X.env = pure false := by rfl) (hw : swappedStores [.Tuple [.Name x px, .Name y py, .Name z pz] kt pt] (.Tuple [a, b, c] k2 pt2) X.env = pure none := by rfl)
    (ht : (assignEach [.Tuple [.Name x px, .Name y py, .Name z pz] kt pt] X.env).map (·.2) = [assign (.Tuple [.Name x px, .Name y py, .Name z pz] kt pt) X.env] := by rfl) :
    DS X F (.Assign [.Tuple [.Name x px, .Name y py, .Name z pz] kt pt] (.Tuple [a, b, c] k2 pt2) pos) (dPar3 i j l ta tb tc) :=
  impS (ps_asg (pe_tup (pa_cons ha (pa_cons hb (pa_cons hcc pa_nil h3) h2) h1)) (pg_tup hc (pgs_cons (pg_name hN hi hx hfx) (pgs_cons (pg_name hN hj hy hfy) (pgs_cons (pg_name hN hl hz hfz) pgs_nil g3) g2) g1) gn gs) hs hw ht) fun D σ H ⟨env, os, r, D', q, w⟩ =>
    ⟨env, os, r, _, q, fun d e1 q v os1 H1 g1 dd1 => ⟨e1, os1, g1.r, _, q, fun d' e2 q2 u os2 H2 g2 dd2 => ⟨e2, os2, g2.r, _, q2, fun rc e3 q3 t os3 H3 g3 hd3 n3 => ⟨by show 3 ≤ sizeLine; decide, fun p np => ⟨p, [v, u, t], rfl, .inl (.inl upd_same), rfl, v, [u, t], rfl, u, [t], rfl, t, [], rfl, rfl, by
      have gp : Go X.K F σ os3 H3 e3 os3 (upd H3 p (.tup [v, u, t])) e3 := Go.same g3.r (same_new np)
      have r1 := (gp.r.setD (i := i) (((dd1.up (g2.hs g1.r)).up (g3.hs g2.r)).up (gp.hs g3.r))).setD (i := j) ((dd2.up (g3.hs g2.r)).up (gp.hs g3.r))
      have hd3' := hd3.go g3.r gp still_refl
      have hd4 : Hd X.K F ((e3.set i (.dat d)).set j (.dat d')) os3 (upd H3 p (.tup [v, u, t])) t rc := by
        cases rc with
        | dat d => exact hd3'
        | own a ds => exact q3.elim
        | new ds =>
          obtain ⟨p, vs, e, m, ns, z, o, hp, dd⟩ := hd3'
          refine ⟨p, vs, e, m, fun k => ?_, z, o, hp, dd⟩
          rw [adAt_set]
          split
          · intro z; cases z
          · rw [adAt_set]
            split
            · intro z; cases z
            · exact ns k
      obtain ⟨e4, q4, r4⟩ := r1.store hd4 q3
      exact w.nx _ q4 os3 _ _ r4⟩⟩⟩⟩⟩
end
end DL
/-! t[::-1] of a tuple or a list; t * k; {} and {k: n} -/
namespace DL
open PySem PySem.Spec PyProof.Rows L2 LL
section
variable {prog : Program} {w : World} {A : Around} {E : Value → Shared → Prop} {s : Shared}
theorem rev_places (n : Nat) : Builtin.Slice.slicePlaces ((n : Int) - 1) (-1) (-1) = n := by
  unfold Builtin.Slice.slicePlaces
  have h1 : ¬ ((-1 : Int) > 0) := by decide
  by_cases h : (n : Int) - 1 > -1
  · simp only [h1, if_false, h, if_true, show (- -1 : Int) = 1 by decide, Int.ediv_one]; omega
  · simp only [h1, if_false, h]; omega
theorem rev_applied {sl : Addr} {n : Nat} {t : Tok} {Q : Int × Int × Nat → Shared → Prop} (hs : s.heap.IsSliceOf sl .none .none (.int (-1) t)) (h : Q ((n : Int) - 1, -1, n) s) :
    wpAny (model prog w) A (Builtin.Slice.sliceApplied (.ref sl) (pure (n : Int))) Q E s := by
  obtain ⟨os, hos, hcs, hds⟩ := id hs
  unfold Builtin.Slice.sliceApplied Builtin.Slice.sliceFields
  refine wpAny_bind (wpAny_bind (wpAny_field hos hds (x := .none) rfl (wpAny_bind (wpAny_field hos hds (x := .none) rfl (wpAny_bind (wpAny_field hos hds (x := .int (-1) t) rfl (wpAny_pure ?_)))))))
  refine wpAny_bind (slicePart_int ?_)
  show wpAny _ _ (if ((-1 : Int) == 0) = true then _ else _) _ _ s
  rw [if_neg (by decide)]
  refine wpAny_bind (slicePart_none (wpAny_bind (slicePart_none (wpAny_bind (wpAny_pure ?_)))))
  have ea : Builtin.Slice.sliceAdjust none none (-1) (n : Int) = ((n : Int) - 1, -1) := by
    unfold Builtin.Slice.sliceAdjust
    simp only [show ((-1 : Int) < 0) = True by simp, if_true]
  show wpAny _ _ (match Builtin.Slice.sliceAdjust none none (-1) (n : Int) with | (lo, hi) => pure (lo, (-1 : Int), Builtin.Slice.slicePlaces lo hi (-1))) _ _ s
  rw [ea]
  show wpAny _ _ (pure (((n : Int) - 1), (-1 : Int), Builtin.Slice.slicePlaces ((n : Int) - 1) (-1) (-1))) _ _ s
  rw [rev_places]
  exact wpAny_pure h
theorem rev_pick (xs : Array Value) : ((List.range xs.size).filterMap fun (m : Nat) => xs[(((xs.size : Int) - 1) + (m : Int) * (-1)).toNat]?).toArray = xs.toList.reverse.toArray := by
  have e : (List.range xs.size).filterMap (fun (m : Nat) => xs[(((xs.size : Int) - 1) + (m : Int) * (-1)).toNat]?) = ((List.range xs.size).map (fun k => xs.size - 1 - k)).filterMap (xs[·]?) := by
    rw [List.filterMap_map]
    congr 1
    funext k
    have z : (((xs.size : Int) - 1) + (k : Int) * (-1)).toNat = xs.size - 1 - k := by omega
    show xs[(((xs.size : Int) - 1) + (k : Int) * (-1)).toNat]? = xs[xs.size - 1 - k]?
    rw [z]
  rw [e, PySem.W.krv_range, List.filterMap_reverse, PySem.W.krv_all]
theorem get_tuple_rev {t sl : Addr} {items : Array Value} {tk : Tok} {Q : Value → Shared → Prop} (ht : IsTup s.heap t items) (hs : s.heap.IsSliceOf sl .none .none (.int (-1) tk))
    (h : Q (.ref s.heap.objs.size) { s with heap := s.heap.push { cls := .type "tuple", data := .seq items.toList.reverse.toArray } })
    (hsz : items.size ≤ sizeLine) : wpAny (model prog w) A (getItem (.ref t) (.ref sl)) Q E s := by
  have htake : sizeOk (.seq items.toList.reverse.toArray) := by
    show items.toList.reverse.toArray.size ≤ sizeLine
    rw [List.size_toArray, List.length_reverse, Array.length_toList]
    omega
  have hTs : s.TypeIs (.ref sl) "slice" := let ⟨os, hos, hcs, _⟩ := id hs; ⟨os, hos, hcs⟩
  have hno : ¬ ((((items.size : Int) - 1) == 0 && (-1 : Int) == 1 && items.size == items.size) = true) := by simp
  unfold getItem
  (try with_reducible refine wpAny_holding ?_); (first | refine wpAny_bind (wpAny_pure ?_) | skip); refine wpAny_bind (wpAny_sequenceKey ht.typeIs (by decide) (wpAny_bind (wpAny_callSpecial?_slot (name := Str.ofString "__getitem__") ht.typeIs slot_tuple_getitem (wpAny_call_entry slot_tuple_getitem ht.typeIs entry_tuple_getitem ?_ (args_tuple_getitem _ _)))))
  refine wpAny_bind (m := Builtin.Tuple.tupleItemsOf (.ref t)) (tupleItemsOf_ ht (wpAny_bind (wpAny_typeOf hTs ?_))); rw [if_pos (by decide)]; refine wpAny_bind (rev_applied hs ?_)
  show wpAny _ _ (if (((items.size : Int) - 1) == 0 && (-1 : Int) == 1 && items.size == items.size) = true then _ else _) _ _ s
  rw [if_neg hno, rev_pick]
  first | exact wpAny_bind (m := Builtin.Tuple.tupleExact _) (wpAny_newObj_type (wpAny_pure ⟨_, rfl, wpAny_pure h⟩) htake) | exact wpAny_bind (m := Builtin.Tuple.tupleExact _) (wpAny_newObj_type (wpAny_bind (wpAny_pure (wpAny_pure ⟨_, rfl, wpAny_pure h⟩))) htake) | exact wpAny_bind (wpAny_bind (m := Builtin.Tuple.tupleExact _) (wpAny_newObj_type (wpAny_pure (wpAny_pure ⟨_, rfl, wpAny_pure h⟩)) htake)) | exact wpAny_bind (wpAny_bind (m := Builtin.Tuple.tupleExact _) (wpAny_newObj_type (wpAny_pure ⟨_, rfl, wpAny_pure h⟩) htake))
end
section
variable {X : Cx} {F : Fm} {e a b : Expr} {pos p1 p2 p3 : Pos} {k : Nat}
/-- t[::-1] of a tuple -/
def tRevT (K : PySem.W.Frag) (te : TE) : TE := fun σ H Q => te σ H fun x H1 => ∃ a xs, x = .ref a ∧ ((SqL K H1 a xs ∧ ∀ p, H1 p = none → Q (.ref p) (upd H1 p (.lst xs.reverse))) ∨ (SqT K H1 a xs ∧ ∀ p, H1 p = none → Q (.ref p) (upd H1 p (.tup xs.reverse))))
theorem pe_revT {te : TE} (he : PE X e te) : PE X (.Subscript e (.Slice none none (some (.UnaryOp .USub (.Constant (.int 1) k p1) p2)) p3) pos) (tRevT X.K te) := by
  refine ⟨fun pins s σ H Q I h => ?_⟩
  refine Subscript_ (thn (he.run pins s σ H _ I h) fun v s1 ⟨x, H1, I1, r1, a, xs, ex, q1⟩ => ?_)
  subst ex; cases r1
  refine wpAny_Slice (thn (po_none.run pins s1 σ H1 (fun o H2 => o = none ∧ H2 = H1) I1 ⟨rfl, rfl⟩) fun vl s2 ⟨l, H2, I2, pl, el, e2⟩ => ?_); subst el e2
  refine thn (po_none.run pins s2 σ H2 (fun o H3 => o = none ∧ H3 = H2) I2 ⟨rfl, rfl⟩) fun vu s3 ⟨u, H3, I3, pu, eu, e3⟩ => ?_; subst eu e3
  refine thn ((po_some (pe_un un_neg pe_int)).run pins s3 σ H3 (fun o H4 => o = some (-1) ∧ H4 = H3) I3 ⟨1, rfl, -1, rfl, rfl, rfl⟩) fun vs s4 ⟨o, H4, I4, ps, eo, e4⟩ => ?_; subst eo e4
  have I5 : Inv X pins σ H4 { s4 with heap := s4.heap.push { cls := .type "slice", data := .fields #[vl, vu, vs] } } := I4.kept (t' := s4.toks) fun b ob q => Heap.get?_push_of_some _ q
  show wpAny (model X.prog X.w) X.A (subscriptTail e (.Slice none none (some (.UnaryOp .USub (.Constant (.int 1) k p1) p2)) p3) (.ref a) (.ref s4.heap.objs.size)) (EP X pins σ Q) X.xe _
  rcases q1 with ⟨hx, q⟩ | ⟨hx, q⟩
  · obtain ⟨its, r, ht, hz⟩ := I5.list hx
    refine tail_any (ops := [.ref a, .ref s4.heap.objs.size]) ht.isList.typeIs (PySem.slot_list_getitem.lookup) ?_ (by with_unfolding_all rfl)
    refine wpAny_getItem_list_slice ht.isList (Heap.IsSliceOf.new _ vl vu vs) pl pu ps (by decide) ?_ (by rw [List.size_toArray]; have := r.length; omega); rw [PySem.W.krv_pick]
    exact ⟨.ref _, _, I5.laid (t' := s4.toks) (o := .lst xs.reverse) (fun b ob q => Heap.get?_push_of_some _ q) (Nat.le_refl _) ⟨by rw [List.length_reverse]; exact hz, _, 0, r.reverse, Heap.get?_push_size _ rfl⟩, rfl, q _ (I5.hok.fresh (Nat.le_refl _))⟩
  · obtain ⟨its, r, ht, hz⟩ := I5.tuple hx
    have hlen : its.toArray.size = xs.length := by rw [List.size_toArray]; exact r.length.symm
    cases pl; cases pu
    cases ps
    refine tail_any (ops := [.ref a, .ref s4.heap.objs.size]) ht.typeIs slot_tuple_getitem.lookup ?_ (by with_unfolding_all rfl)
    refine get_tuple_rev ht (Heap.IsSliceOf.new ..) ?_ (by rw [hlen]; exact hz)
    exact ⟨.ref _, _, I5.laid (t' := s4.toks) (o := .tup xs.reverse) (fun b ob q => Heap.get?_push_of_some _ q) (Nat.le_refl _) ⟨by rw [List.length_reverse]; exact hz, _, r.reverse, IsTup.new _ _⟩, rfl, q _ (I5.hok.fresh (Nat.le_refl _))⟩
def oRev : Rv → (Rv → Prop) → Prop := fun a k => a.seq fun tp ds => k (if tp = true then .dat (.tup ds.reverse) else .new ds.reverse)
theorem l_rev {K : PySem.W.Frag} : Lift1 K (fun v H Q => ∃ a xs, v = .ref a ∧ ((SqL K H a xs ∧ ∀ p, H p = none → Q (.ref p) (upd H p (.lst xs.reverse))) ∨ (SqT K H a xs ∧ ∀ p, H p = none → Q (.ref p) (upd H p (.tup xs.reverse))))) oRev := fun F os env σ H v ra Q k r ha h q => by
  obtain ⟨a, vs, ds, b, rfl, l1, l2, da, h⟩ := ha.seq r h
  refine ⟨a, vs, rfl, ?_⟩
  cases b with
  | false => exact .inl ⟨l1 rfl, fun p np => q _ _ _ _ h (Go.hide r np) (r.newL np da.reverse) fun p' e m => by cases e; exact r.off np m⟩
  | true => exact .inr ⟨l2 rfl, fun p np => q _ _ os _ h (Go.same r (same_new np)) (Dr.tup (.inl (.inl (hid_at upd_same fun m => r.off np m))) (da.reverse.up (hid_up (same_new np)))) trivial⟩
theorem dv_rev {t : DTV} (h : DV X F e t) : DV X F (.Subscript e (.Slice none none (some (.UnaryOp .USub (.Constant (.int 1) k p1) p2)) p3) pos) (dUn oRev t) := imp (pe_revT h) fun σ H Q q => un_run l_rev q
/-! t * k of a tuple -/
def oRepT : Rv → Rv → (Rv → Prop) → Prop
  | .dat (.tup ds), .dat (.int k), q => (ds ≠ [] ∧ 2 ≤ k ∧ k ≤ 1000 ∧ ds.length ≤ 1000) ∧ q (.dat (.tup (List.replicate k.toNat ds).flatten))
  | _, _, _ => False
theorem DrA.rep {K : PySem.W.Frag} {H : Hp} {vs : List V} {ds : List D} (h : DrA K H vs ds) : ∀ n, DrA K H (List.replicate n vs).flatten (List.replicate n ds).flatten
  | 0 => .nil
  | n + 1 => by rw [List.replicate_succ, List.replicate_succ, List.flatten_cons, List.flatten_cons]; exact h.append (DrA.rep h n)
theorem l_repT {K : PySem.W.Frag} : Lift2 K (rRepT K) oRepT := fun F os env σ H v w ra rb Q k r ha hb h q => by
  match ra, rb, h, ha, hb with
  | .dat (.tup ds), .dat (.int i), ⟨⟨h1, h2, h3, h4⟩, h⟩, ha, hb =>
    cases hd_int hb
    obtain ⟨a, vs, rfl, s1, da⟩ := hd_tup ha
    refine ⟨a, i, vs, rfl, rfl, Same.seqT hid_same s1, fun z => h1 ?_, h2, h3, by rw [da.length]; exact h4, fun p np => ?_⟩
    · subst z; cases da; rfl
    · exact q _ _ os _ h (Go.same r (same_new np)) (Dr.tup (.inl (.inl (hid_at upd_same fun m => r.off np m))) ((DrA.rep da _).up (hid_up (same_new np)))) trivial
theorem drep {ta tb : DTV} (ha : DV X F a ta) (hb : DV X F b tb) : DV X F (.BinOp a .Mult b pos) (dOp oRepT ta tb) := dv_op op_repT l_repT ha hb
/-! {} and {k: n}, written -/
theorem de_d0 : DE X F (.Dict [] [] pos) (dC (.dct [] [])) := imp pe_dnewK fun σ H Q ⟨env, os, r, Q', q, f⟩ p np => f _ _ q _ os _ (Go.same r (same_new np)) (Dr.dct (kvs := []) (ds := []) (hid_at upd_same fun m => r.off np m) .nil)
theorem de_d1 {x : Str} {i : Int} {j j' : Nat} {p p' : Pos} : DE X F (.Dict [some (.Constant (.str x) j p)] [.Constant (.int i) j' p'] pos) (dC (.dct [.inr x] [.int i])) := imp (pe_disp (pps_cons pe_str pe_int pps_nil) (by rfl) (by rfl) (fun z => by cases z) (by show 1 ≤ 15; decide)) fun σ H Q ⟨env, os, r, Q', q, f⟩ p np =>
  ⟨upd_same, [(.inr x, .int i)], rfl, (by show 1 ≤ 15; decide), by
    rw [upd_upd]
    exact f _ _ q _ os _ (Go.same r (same_new np)) (Dr.dct (kvs := [(.inr x, .int i)]) (ds := [.int i]) (hid_at upd_same fun m => r.off np m) (.cons (.int i) .nil))⟩
theorem de_d1i {x : Int} {i : Int} {j j' : Nat} {p p' : Pos} : DE X F (.Dict [some (.Constant (.int x) j p)] [.Constant (.int i) j' p'] pos) (dC (.dct [.inl x] [.int i])) := imp (pe_disp (pps_cons pe_int pe_int pps_nil) (by rfl) (by rfl) (fun z => by cases z) (by show 1 ≤ 15; decide)) fun σ H Q ⟨env, os, r, Q', q, f⟩ p np =>
  ⟨upd_same, [(.inl x, .int i)], rfl, (by show 1 ≤ 15; decide), by
    rw [upd_upd]
    exact f _ _ q _ os _ (Go.same r (same_new np)) (Dr.dct (kvs := [(.inl x, .int i)]) (ds := [.int i]) (hid_at upd_same fun m => r.off np m) (.cons (.int i) .nil))⟩
end
end DL
/-! a list beside an empty one -/
namespace DL
open PySem PySem.Spec PyProof.Rows L2 LL
def rNil (K : PySem.W.Frag) (neg : Bool) : R2 := fun x y H Q => ∃ a b xs ys, x = .ref a ∧ y = .ref b ∧ SqL K H a xs ∧ SqL K H b ys ∧ (xs = [] ∨ ys = []) ∧ Q (.bl (if neg then !(xs.isEmpty && ys.isEmpty) else xs.isEmpty && ys.isEmpty)) H
section
variable {X : Cx}
theorem op_eqNil (hu : X.A.units + 64 < cLine) : OpR X (compareOp .Eq) (rNil X.K false) := by
  intro pins s σ H x y v u Q I rx ry h
  obtain ⟨a, b, xs, ys, rfl, rfl, hx, hy, n, q⟩ := h
  cases rx; cases ry
  obtain ⟨i1, r1, l1, _⟩ := I.list hx
  obtain ⟨i2, r2, l2, _⟩ := I.list hy
  have e1 : i1.toArray.size = xs.length := by rw [List.size_toArray]; exact r1.length.symm
  have e2 : i2.toArray.size = ys.length := by rw [List.size_toArray]; exact r2.length.symm
  by_cases c : xs.length = ys.length
  · have z : xs = [] ∧ ys = [] := by
      rcases n with rfl | rfl
      · exact ⟨rfl, List.eq_nil_of_length_eq_zero c.symm⟩
      · exact ⟨List.eq_nil_of_length_eq_zero c, rfl⟩
    obtain ⟨rfl, rfl⟩ := z
    cases r1; cases r2
    exact SeqAt.eq_listAt (e := fun _ => true) l1.isList l2.isList rfl (by omega) (fun j h1 _ => absurd h1 (Nat.not_lt_zero j)) ⟨.bl true, H, I, rfl, q⟩
  · refine SeqAt.eq_list_lengthsAt l1.isList l2.isList (by rw [e1, e2]; simpa using c) (by omega) ⟨.bl false, H, I, rfl, ?_⟩
    have z : (xs.isEmpty && ys.isEmpty) = false := by
      cases xs <;> cases ys <;> first | rfl | exact absurd rfl c
    simpa [z] using q
theorem op_neNil (hu : X.A.units + 64 < cLine) : OpR X (compareOp .NotEq) (rNil X.K true) := by
  intro pins s σ H x y v u Q I rx ry h
  obtain ⟨a, b, xs, ys, rfl, rfl, hx, hy, n, q⟩ := h
  cases rx; cases ry
  obtain ⟨i1, r1, l1, _⟩ := I.list hx
  obtain ⟨i2, r2, l2, _⟩ := I.list hy
  have e1 : i1.toArray.size = xs.length := by rw [List.size_toArray]; exact r1.length.symm
  have e2 : i2.toArray.size = ys.length := by rw [List.size_toArray]; exact r2.length.symm
  by_cases c : xs.length = ys.length
  · have z : xs = [] ∧ ys = [] := by
      rcases n with rfl | rfl
      · exact ⟨rfl, List.eq_nil_of_length_eq_zero c.symm⟩
      · exact ⟨List.eq_nil_of_length_eq_zero c, rfl⟩
    obtain ⟨rfl, rfl⟩ := z
    cases r1; cases r2
    exact SeqAt.RcNeAt.lists (e := fun _ => true) l1.isList l2.isList rfl (by omega) (fun j h1 _ => absurd h1 (Nat.not_lt_zero j)) _ _ _ _ ⟨.bl false, H, I, rfl, q⟩
  · refine SeqAt.RcNeAt.lists_lengths l1.isList l2.isList (by rw [e1, e2]; simpa using c) (by omega) _ _ _ _ ⟨.bl true, H, I, rfl, ?_⟩
    have z : (xs.isEmpty && ys.isEmpty) = false := by
      cases xs <;> cases ys <;> first | rfl | exact absurd rfl c
    simpa [z] using q
end
def Rv.lsq : Rv → (List D → Prop) → Prop
  | .dat (.lst ds), k => k ds
  | .new ds, k => k ds
  | .own _ ds, k => k ds
  | _, _ => False
section
variable {K : PySem.W.Frag}
theorem Hd.lsq {F : Fm} {os : List Addr} {H : Hp} {σ : L2.St} {env : Ev} {v : V} {rv : Rv} (r : R K F os H σ env) (h : Hd K F env os H v rv) {k : List D → Prop} (q : rv.lsq k) : ∃ a vs ds, v = .ref a ∧ SqL K H a vs ∧ DrA K (hid os H) vs ds ∧ k ds := by
  cases rv with
  | dat d =>
    cases d with
    | lst ds =>
      cases h with
      | lst h1 h2 => exact ⟨_, _, ds, rfl, hid_same.seq h1, h2, q⟩
    | _ => exact q.elim
  | own a ds =>
    obtain ⟨b, vs, ds', e, hl, da, q⟩ := h.lis r (k := k) q
    exact ⟨b, vs, ds', e, SqL.of hl, da, q⟩
  | new ds =>
    obtain ⟨b, vs, ds', e, hl, da, q⟩ := h.lis r (k := k) q
    exact ⟨b, vs, ds', e, SqL.of hl, da, q⟩
def oNil (neg : Bool) : Rv → Rv → (Rv → Prop) → Prop := fun a b k => a.lsq fun as => b.lsq fun bs => (as = [] ∨ bs = []) ∧ k (.dat (.bl (if neg then !(as.isEmpty && bs.isEmpty) else as.isEmpty && bs.isEmpty)))
theorem l_nil {neg : Bool} : Lift2 K (rNil K neg) (oNil neg) := fun F os env σ H v w ra rb Q k r ha hb h q => by
  obtain ⟨a, vs, as, rfl, h1, d1, h⟩ := ha.lsq r h
  obtain ⟨b, ws, bs, rfl, h2, d2, n, h⟩ := hb.lsq r h
  have e1 : vs.isEmpty = as.isEmpty := by cases d1 <;> rfl
  have e2 : ws.isEmpty = bs.isEmpty := by cases d2 <;> rfl
  refine ⟨a, b, vs, ws, rfl, rfl, h1, h2, ?_, by rw [e1, e2]; exact q _ _ os H h (Go.refl r) (Dr.bl _) trivial⟩
  rcases n with rfl | rfl
  · cases d1; exact .inl rfl
  · cases d2; exact .inr rfl
end
section
variable {X : Cx} {F : Fm} {a b : Expr} {pos : Pos} {ta tb : DTV}
theorem deqN (hu : X.A.units + 64 < cLine) (ha : DV X F a ta) (hb : DV X F b tb) : DV X F (.Compare a [.Eq] [b] pos) (dOp (oNil false) ta tb) := dv_cmp (op_eqNil hu) l_nil ha hb (nomark _)
theorem dneN (hu : X.A.units + 64 < cLine) (ha : DV X F a ta) (hb : DV X F b tb) : DV X F (.Compare a [.NotEq] [b] pos) (dOp (oNil true) ta tb) := dv_cmp (op_neNil hu) l_nil ha hb (nomark _)
theorem teqN (hu : X.A.units + 64 < cLine) (ha : DV X F a ta) (hb : DV X F b tb) : DT X F (.Compare a [.Eq] [b] pos) (dTst (dOp (oNil false) ta tb)) := dt_cmp (op_eqNil hu) l_nil ha hb (nomark _)
theorem tneN (hu : X.A.units + 64 < cLine) (ha : DV X F a ta) (hb : DV X F b tb) : DT X F (.Compare a [.NotEq] [b] pos) (dTst (dOp (oNil true) ta tb)) := dt_cmp (op_neNil hu) l_nil ha hb (nomark _)
end
theorem onl_n {neg : Bool} {as : List D} {k : Rv → Prop} : oNil neg (.new as) (.new []) k = k (.dat (.bl (if neg then !as.isEmpty else as.isEmpty))) := by
  show ((as = [] ∨ ([] : List D) = []) ∧ k (.dat (.bl (if neg then !(as.isEmpty && ([] : List D).isEmpty) else as.isEmpty && ([] : List D).isEmpty)))) = _
  simp
theorem onl_o {neg : Bool} {a : Addr} {as : List D} {k : Rv → Prop} : oNil neg (.own a as) (.new []) k = k (.dat (.bl (if neg then !as.isEmpty else as.isEmpty))) := by
  show ((as = [] ∨ ([] : List D) = []) ∧ k (.dat (.bl (if neg then !(as.isEmpty && ([] : List D).isEmpty) else as.isEmpty && ([] : List D).isEmpty)))) = _
  simp
theorem onl_d {neg : Bool} {as : List D} {k : Rv → Prop} : oNil neg (.dat (.lst as)) (.new []) k = k (.dat (.bl (if neg then !as.isEmpty else as.isEmpty))) := by
  show ((as = [] ∨ ([] : List D) = []) ∧ k (.dat (.bl (if neg then !(as.isEmpty && ([] : List D).isEmpty) else as.isEmpty && ([] : List D).isEmpty)))) = _
  simp
theorem noAd_c {e : Ev} {v : Nat} {vs : List Nat} : noAd e (v :: vs) = (adAt e v = none ∧ noAd e vs) := by
  unfold noAd
  rw [List.all_cons, Bool.and_eq_true]
  cases adAt e v <;> simp
theorem noAd_n {e : Ev} : noAd e [] = True := by unfold noAd; simp
theorem adAt_0 {s : Sl} {e : Ev} : adAt (s :: e) 0 = s.ad := rfl
theorem adAt_s {s : Sl} {e : Ev} {n : Nat} : adAt (s :: e) (n + 1) = adAt e n := rfl
theorem ad_no : Sl.ad .no = none := rfl
theorem ad_dat {d : D} : Sl.ad (.dat d) = none := rfl
/-! lists that are data, put one behind the other -/
def rCatS (K : PySem.W.Frag) : R2 := fun x y H Q => ∃ l b xs zs, x = .ref l ∧ y = .ref b ∧ SqL K H l xs ∧ SqL K H b zs ∧ xs.length + zs.length ≤ sizeLine ∧ ∀ p, H p = none → Q (.ref p) (upd H p (.lst (xs ++ zs)))
theorem op_catS {X : Cx} : OpR X (binaryOp .Add) (rCatS X.K) := by
  intro pins s σ H x y v u Q I rx ry h
  obtain ⟨l, b, xs, zs, rfl, rfl, hx, hy, hz, q⟩ := h
  cases rx; cases ry
  obtain ⟨i1, r1, l1, z1⟩ := I.list hx
  obtain ⟨i2, r2, l2, z2⟩ := I.list hy
  have e1 := r1.length
  have e2 := r2.length
  obtain ⟨⟨cls, dd, data, sl⟩, ho, hc, n, hd⟩ := id l1.isList; obtain ⟨⟨cls2, dd2, data2, sl2⟩, ho2, hc2, n2, hd2⟩ := id l2.isList
  simp only at hc hd hc2 hd2; subst hc hd hc2 hd2
  refine concat_meets ⟨_, ho, rfl⟩ ⟨_, ho2, rfl⟩ noFill_list_add seq_list_add PySem.F.slot_list_add PySem.F.entry_list_add (PySem.F.args_list_add_2 _ _) (list_addW l b i1.toArray i2.toArray n n2 dd dd2 sl sl2 (by rw [List.size_toArray, List.size_toArray]; omega)) ⟨ho, ho2, ?_⟩
  rw [show i1.toArray ++ i2.toArray = (i1 ++ i2).toArray by simp]
  exact ⟨.ref _, _, I.lnew (t' := s.toks) (r1.append r2) (by rw [List.length_append]; omega), rfl, q _ I.fresh⟩
def oCatS : Rv → Rv → (Rv → Prop) → Prop := fun a b k => a.lsq fun as => b.lsq fun bs => as.length + bs.length ≤ 1000 ∧ k (.new (as ++ bs))
theorem l_catS {K : PySem.W.Frag} : Lift2 K (rCatS K) oCatS := fun F os env σ H v w ra rb Q k r ha hb h q => by
  obtain ⟨a, vs, as, rfl, h1, d1, h⟩ := ha.lsq r h
  obtain ⟨b, ws, bs, rfl, h2, d2, n, h⟩ := hb.lsq r h
  refine ⟨a, b, vs, ws, rfl, rfl, h1, h2, by rw [d1.length, d2.length]; exact Nat.le_of_lt (small1000 n), fun p np => q _ _ _ _ h (Go.hide r np) (r.newL np (d1.append d2)) ?_⟩
  intro p' e m; cases e; exact r.off np m
theorem dcat {X : Cx} {F : Fm} {a b : Expr} {pos : Pos} {ta tb : DTV} (ha : DV X F a ta) (hb : DV X F b tb) : DV X F (.BinOp a .Add b pos) (dOp oCatS ta tb) := dv_op op_catS l_catS ha hb
theorem oc_dn {as bs : List D} {k : Rv → Prop} : oCatS (.dat (.lst as)) (.new bs) k = (as.length + bs.length ≤ 1000 ∧ k (.new (as ++ bs))) := rfl
theorem oc_nn {as bs : List D} {k : Rv → Prop} : oCatS (.new as) (.new bs) k = (as.length + bs.length ≤ 1000 ∧ k (.new (as ++ bs))) := rfl
theorem oc_on {a : Addr} {as bs : List D} {k : Rv → Prop} : oCatS (.own a as) (.new bs) k = (as.length + bs.length ≤ 1000 ∧ k (.new (as ++ bs))) := rfl
theorem oc_dd {as bs : List D} {k : Rv → Prop} : oCatS (.dat (.lst as)) (.dat (.lst bs)) k = (as.length + bs.length ≤ 1000 ∧ k (.new (as ++ bs))) := rfl
theorem oc_nd {as bs : List D} {k : Rv → Prop} : oCatS (.new as) (.dat (.lst bs)) k = (as.length + bs.length ≤ 1000 ∧ k (.new (as ++ bs))) := rfl
/-! written data -/
def dCs (ds : List D) : DTA := fun env Q => Q ds env
def dNew (ds : List D) : DTV := fun env Q => Q (.new ds) env
section
variable {X : Cx} {F : Fm} {e : Expr} {es : List Expr} {pos : Pos}
theorem da_cnil : DA X F [] (dCs []) := da_nil
theorem da_ccons {d : D} {ds : List D} (h : DE X F e (dC d)) (g : DA X F es (dCs ds)) (hs : starEach (e :: es) X.env = (false, eval e X.env) :: starEach es X.env := by rfl) : DA X F (e :: es) (dCs (d :: ds)) := da_cons h g hs
theorem de_ctup {ds : List D} {k : Nat} (h : DA X F es (dCs ds)) (hl : ds.length ≤ 1000 := by decide) : DE X F (.Tuple es k pos) (dC (.tup ds)) := imp (de_tup h) fun σ H Q ⟨env, os, r, Q', q, f⟩ => ⟨env, os, r, Q', ⟨hl, q⟩, f⟩
theorem de_clst {ds : List D} (h : DA X F es (dCs ds)) (hl : ds.length ≤ 1000 := by decide) : DE X F (.List es pos) (dC (.lst ds)) := imp (de_of (dv_lst h)) fun σ H Q ⟨env, os, r, Q', q, f⟩ => ⟨env, os, r, Q', ⟨hl, q⟩, f⟩
theorem dv_clst {ds : List D} (h : DA X F es (dCs ds)) (hl : ds.length ≤ 1000 := by decide) : DV X F (.List es pos) (dNew ds) := imp (dv_lst h) fun σ H Q ⟨env, os, r, Q', q, f⟩ => ⟨env, os, r, Q', ⟨hl, q⟩, f⟩
theorem de_cneg {i : Int} (h : DE X F e (dC (.int i))) : DE X F (.UnaryOp .USub e pos) (dC (.int (-i))) := imp (de_of (dneg (dv_of h))) fun σ H Q ⟨env, os, r, Q', q, f⟩ => ⟨env, os, r, Q', q, f⟩
theorem de_cadd {a b : Expr} {i j : Int} (h : DE X F a (dC (.int i))) (g : DE X F b (dC (.int j))) : DE X F (.BinOp a .Add b pos) (dC (.int (i + j))) := imp (de_of (dadd (dv_of h) (dv_of g))) fun σ H Q ⟨env, os, r, Q', q, f⟩ => ⟨env, os, r, Q', ⟨trivial, q⟩, f⟩
theorem de_cpow {a b : Expr} {i j : Int} (h : DE X F a (dC (.int i))) (g : DE X F b (dC (.int j))) (hc : CPow i j := by exact ⟨by decide, by decide, by decide⟩) : DE X F (.BinOp a .Pow b pos) (dC (.int (i ^ j.toNat))) := imp (de_of (dpow (dv_of h) (dv_of g))) fun σ H Q ⟨env, os, r, Q', q, f⟩ => ⟨env, os, r, Q', ⟨trivial, hc, q⟩, f⟩
end
/-- a for loop, from what is walked on -/
def ForG (g : DTG) (tb : DTS) (ee : DEnds) (ds : List D) (e1 : Ev) : Prop := ∃ I : Nat → Ev → Prop, I 0 e1 ∧ (∀ i d e, ds[i]? = some d → I i e → g d e fun e2 => tb { ee with nx := I (i + 1), ct := I (i + 1), bk := ee.nx } e2) ∧ ∀ e, I ds.length e → ee.nx e
theorem dFor_eq {ti : DTI} {g : DTG} {tb : DTS} {D : DEnds} {env : Ev} : dFor ti g tb D env = ti env fun ds e1 => ForG g tb D ds e1 := rfl
theorem for_in {ds : List D} {e1 : Ev} {g : DTG} {tb : DTS} {ee : DEnds} (I : Nat → Ev → Prop) (h0 : I 0 e1) (turn : ∀ i d e, ds[i]? = some d → I i e → ∀ N : Ev → Prop, (∀ e', I (i + 1) e' → N e') → g d e fun e2 => tb { ee with nx := N, ct := N, bk := ee.nx } e2) (fin : ∀ e, I ds.length e → ee.nx e) : ForG g tb ee ds e1 :=
  ⟨I, h0, fun i d e hd hi => turn i d e hd hi (I (i + 1)) fun _ h => h, fin⟩
end DL
local macro_rules
  | `(tactic| simp_wf) => `(tactic| simp only [Nat.zero_le, Nat.reduceAdd, Nat.reduceLeDiff, Nat.le_refl, DL.oRev, DL.oc_dn, DL.oc_nn, DL.oc_on, DL.oc_dd, DL.oc_nd, DL.dCs, DL.dNew, DL.noAd_c, DL.noAd_n, DL.adAt_0, DL.adAt_s, DL.ad_no, DL.ad_dat, DL.onl_n, DL.onl_o, DL.onl_d, DL.dRaise2, Bool.not_not, Bool.true_and, Bool.and_true, Bool.false_and, Bool.and_false, Bool.true_or, Bool.or_true, Bool.false_or, Bool.or_false, DL.dRet, DL.dNext, DL.dDrop, DL.dSet, DL.dOwn, DL.dAsg, DL.dPar2, DL.dPar3, DL.dSetLc, DL.dVar, DL.dC, DL.dDat, DL.dRel, DL.dNil, DL.dCons, DL.dOp, DL.dUn, DL.dTst, DL.dNot, DL.dAnd, DL.dOr, DL.dAndV, DL.dOrV, DL.dNotV, DL.dIfE, DL.dTup, DL.dLst, DL.dCall, DL.dCallB, DL.dChain, DL.dYes, DL.dApp, DL.dPopAt, DL.dPop, DL.dExt, DL.dIndex, DL.dTru, DL.doNone, DL.dSl, DL.dLstRg, DL.diEn, DL.diZip, DL.diSeq, DL.diRg2, DL.oLen, DL.oList, DL.oTuple, DL.isBag, DL.dEnds, DL.bEnds, DL.ownAt, DL.r_rel_dat, DL.r_rel_new, DL.r_rd_dat, DL.r_rd_new, DL.r_ret_dat, DL.r_ret_new, DL.r_rd_own, DL.r_ret_own, DL.r_seq_dl, DL.r_seq_dt, DL.r_seq_n, DL.r_seq_o, DL.r_items_dl, DL.r_items_dt, DL.r_items_n, DL.r_lis_n, DL.r_lis_o, DL.r_bool, DL.st_d, DL.st_n, DL.st_o, DL.sto_d, DL.sto_n, DL.gt_t, DL.gt_l, DL.gc_c, DL.gc_n, DL.gn_n, DL.oa_ii, DL.oa_ss, DL.oa_tt, DL.oa_nn, DL.oa_on, DL.oi_ii, DL.oj_ii, DL.on_i, DL.ob_i, DL.ot_i, DL.ot_b, DL.os_i, DL.oin_d, DL.ois_d, DL.oix_i, DL.eq_v, DL.ne_v, DL.ds_i, DL.rg1_i, DL.eqOk_int, DL.eqOk_l0, DL.eqv_int, DL.eqv_str, DL.eqv_l0, DL.wip_0, DL.wip_c, List.map_cons, List.map_nil, DL.env0_1, DL.env0_2, DL.env0_3, DL.envB_0, DL.envB_1, DL.envB_2, DL.envB_3, DL.noS_0, DL.noS_s, List.length_cons, List.length_nil, Nat.zero_add, List.getElem?_cons_zero, List.getElem?_cons_succ, List.set_cons_zero, List.set_cons_succ, DL.atI_0, DL.atI_1, DL.atI_2, true_and, and_true, if_true, if_false, Bool.false_eq_true, ite_true, ite_false, Bool.not_true, Bool.not_false, Bool.not_eq_true', decide_eq_true_eq, decide_eq_false_iff_not, ne_eq, not_false_eq_true, reduceCtorEq])
local macro_rules
  | `(tactic| clean_wf) => `(tactic| simp only [DL.onl_n, DL.onl_o, DL.onl_d, DL.dRaise2, Bool.not_not, Bool.true_and, Bool.and_true, Bool.false_and, Bool.and_false, Bool.true_or, Bool.or_true, Bool.false_or, Bool.or_false, DL.dRet, DL.dNext, DL.dDrop, DL.dSet, DL.dOwn, DL.dAsg, DL.dPar2, DL.dPar3, DL.dSetLc, DL.dVar, DL.dC, DL.dDat, DL.dRel, DL.dNil, DL.dCons, DL.dOp, DL.dUn, DL.dTst, DL.dNot, DL.dAnd, DL.dOr, DL.dAndV, DL.dOrV, DL.dNotV, DL.dIfE, DL.dTup, DL.dLst, DL.dCall, DL.dCallB, DL.dChain, DL.dYes, DL.dApp, DL.dPopAt, DL.dPop, DL.dExt, DL.dIndex, DL.dTru, DL.doNone, DL.dSl, DL.dLstRg, DL.diEn, DL.diZip, DL.diSeq, DL.diRg2, DL.oLen, DL.oList, DL.oTuple, DL.isBag, DL.dEnds, DL.bEnds, DL.ownAt, DL.r_rel_dat, DL.r_rel_new, DL.r_rd_dat, DL.r_rd_new, DL.r_ret_dat, DL.r_ret_new, DL.r_rd_own, DL.r_ret_own, DL.r_seq_dl, DL.r_seq_dt, DL.r_seq_n, DL.r_seq_o, DL.r_items_dl, DL.r_items_dt, DL.r_items_n, DL.r_lis_n, DL.r_lis_o, DL.r_bool, DL.st_d, DL.st_n, DL.st_o, DL.sto_d, DL.sto_n, DL.gt_t, DL.gt_l, DL.gc_c, DL.gc_n, DL.gn_n, DL.oa_ii, DL.oa_ss, DL.oa_tt, DL.oa_nn, DL.oa_on, DL.oi_ii, DL.oj_ii, DL.on_i, DL.ob_i, DL.ot_i, DL.ot_b, DL.os_i, DL.oin_d, DL.ois_d, DL.oix_i, DL.eq_v, DL.ne_v, DL.ds_i, DL.rg1_i, DL.eqOk_int, DL.eqOk_l0, DL.eqv_int, DL.eqv_str, DL.eqv_l0, DL.wip_0, DL.wip_c, List.map_cons, List.map_nil, DL.env0_1, DL.env0_2, DL.env0_3, DL.envB_0, DL.envB_1, DL.envB_2, DL.envB_3, DL.noS_0, DL.noS_s, List.length_cons, List.length_nil, Nat.zero_add, List.getElem?_cons_zero, List.getElem?_cons_succ, List.set_cons_zero, List.set_cons_succ, DL.atI_0, DL.atI_1, DL.atI_2, true_and, and_true, if_true, if_false, Bool.false_eq_true, ite_true, ite_false, Bool.not_true, Bool.not_false, Bool.not_eq_true', decide_eq_true_eq, decide_eq_false_iff_not, ne_eq, not_false_eq_true, reduceCtorEq])
namespace DL
open PySem PySem.Spec PyProof.Rows L2 LL
/-- data of a bounded text -/
def Sz (n : Nat) (d : PyData) : Prop := d.showable = true ∧ d.depth ≤ 10 ∧ d.shown.length ≤ n
theorem sz_int {i : Int} (h : i.natAbs < 2 ^ 200) : Sz 250 (.int i) := by
  have lg : i.natAbs.log2 < 200 := PySem.Flt.log2_lt_of (by decide) h
  refine ⟨?_, ?_, ?_⟩
  · simp [PyData.showable]
    omega
  · rw [PyData.depth]
    omega
  · rw [PyData.shown_int, PySem.ofString_length]
    have := int_text_length_le (a := i) (k := 200) (by decide) lg
    omega
theorem up_lt {x : Nat} {i n : Nat} (hx : x < 2 ^ i) (h : i ≤ n) : x < 2 ^ n := Nat.lt_of_lt_of_le hx (Nat.pow_le_pow_right (by decide) h)
/-! data of so many bits, that can be shown -/
mutual
def D.sm (b : Nat) : D → Bool
  | .int i => decide (i.natAbs < 2 ^ b)
  | .lst ds => decide (ds.length ≤ 1000) && D.sms b ds
  | .tup ds => decide (ds.length ≤ 1000) && D.sms b ds
  | .dct _ ds => D.sms b ds
  | .obj _ _ _ => false
  | _ => true
def D.sms (b : Nat) : List D → Bool
  | [] => true
  | d :: ds => d.sm b && D.sms b ds
end
mutual
theorem sm_up {b c : Nat} (h : b ≤ c) : ∀ {d : D}, d.sm b = true → d.sm c = true
  | .int i, q => decide_eq_true (up_lt (of_decide_eq_true q) h)
  | .lst ds, q => by
    have z := Bool.and_eq_true_iff.mp q
    exact Bool.and_eq_true_iff.mpr ⟨z.1, sms_up h z.2⟩
  | .tup ds, q => by
    have z := Bool.and_eq_true_iff.mp q
    exact Bool.and_eq_true_iff.mpr ⟨z.1, sms_up h z.2⟩
  | .dct _ ds, q => sms_up (ds := ds) h q
  | .non, _ => rfl
  | .bl _, _ => rfl
  | .str _, _ => rfl
  | .obj _ _ _, q => q
theorem sms_up {b c : Nat} (h : b ≤ c) : ∀ {ds : List D}, D.sms b ds = true → D.sms c ds = true
  | [], _ => rfl
  | d :: ds, q => by
    have z := Bool.and_eq_true_iff.mp q
    exact Bool.and_eq_true_iff.mpr ⟨sm_up h z.1, sms_up h z.2⟩
end
mutual
theorem sm_small : ∀ {d : D}, d.sm 200 = true → d.small = true
  | .int i, q => q
  | .lst ds, q => by
    have z := Bool.and_eq_true_iff.mp q
    exact Bool.and_eq_true_iff.mpr ⟨z.1, sms_small z.2⟩
  | .tup ds, q => by
    have z := Bool.and_eq_true_iff.mp q
    exact Bool.and_eq_true_iff.mpr ⟨z.1, sms_small z.2⟩
  | .dct _ ds, q => sms_small (ds := ds) q
  | .non, _ => rfl
  | .bl _, _ => rfl
  | .str _, _ => rfl
  | .obj _ _ _, q => q
theorem sms_small : ∀ {ds : List D}, D.sms 200 ds = true → D.smalls ds = true
  | [], _ => rfl
  | d :: ds, q => by
    have z := Bool.and_eq_true_iff.mp q
    exact Bool.and_eq_true_iff.mpr ⟨sm_small z.1, sms_small z.2⟩
end
theorem sms_mem {b : Nat} {d : D} : ∀ {ds : List D}, D.sms b ds = true → d ∈ ds → d.sm b = true
  | e :: es, h, m => by
    have z := Bool.and_eq_true_iff.mp h
    rcases List.mem_cons.mp m with rfl | m
    · exact z.1
    · exact sms_mem z.2 m
theorem sms_of {b : Nat} : ∀ {ds : List D}, (∀ d ∈ ds, d.sm b = true) → D.sms b ds = true
  | [], _ => rfl
  | d :: ds, h => Bool.and_eq_true_iff.mpr ⟨h d List.mem_cons_self, sms_of fun e m => h e (List.mem_cons_of_mem _ m)⟩
/-- ints of b bits, no objects, shown by at most n signs, m deep -/
structure Fit (b n m : Nat) (d : D) : Prop where
  sm : d.sm b = true
  sh : d.py.showable = true
  dp : d.py.depth ≤ m
  le : d.py.shown.length ≤ n
theorem Fit.up {b n m b' n' m' : Nat} {d : D} (h : Fit b n m d) (h1 : b ≤ b' := by first | decide | omega) (h2 : n ≤ n' := by first | decide | omega) (h3 : m ≤ m' := by first | decide | omega) : Fit b' n' m' d := ⟨sm_up h1 h.sm, h.sh, Nat.le_trans h.dp h3, Nat.le_trans h.le h2⟩
theorem Fit.small {b n m : Nat} {d : D} (h : Fit b n m d) (hb : b ≤ 200 := by decide) : d.small = true := sm_small (sm_up hb h.sm)
def fitB (b n m : Nat) (d : D) : Bool := d.sm b && d.py.showable && decide (d.py.depth ≤ m) && decide (d.py.shown.length ≤ n)
theorem fit_of {b n m : Nat} {d : D} (h : fitB b n m d = true) : Fit b n m d := by
  have z := Bool.and_eq_true_iff.mp h
  have z1 := Bool.and_eq_true_iff.mp z.1
  have z2 := Bool.and_eq_true_iff.mp z1.1
  exact ⟨z2.1, z2.2, of_decide_eq_true z1.2, of_decide_eq_true z.2⟩
theorem fits_of {b n m : Nat} {ds : List D} (h : ds.all (fitB b n m) = true) : ∀ d ∈ ds, Fit b n m d := fun d hd => fit_of (List.all_eq_true.mp h d hd)
theorem fit_int {i : Int} {b : Nat} (h : i.natAbs < 2 ^ b) (hb : b ≤ 200 := by decide) : Fit b 250 0 (.int i) := by
  obtain ⟨h1, h2, h3⟩ := sz_int (up_lt h hb)
  exact ⟨decide_eq_true h, h1, Nat.le_of_eq (by simp [D.py, PyData.depth]), h3⟩
theorem pys_len : ∀ {ds : List D}, (D.pys ds).length = ds.length
  | [] => rfl
  | d :: ds => by show (D.pys ds).length + 1 = _; rw [pys_len]; rfl
theorem fits_sum {b n m : Nat} : ∀ {ds : List D}, (∀ d ∈ ds, Fit b n m d) → ((PyData.shownAll (D.pys ds)).map (·.length)).sum ≤ n * ds.length ∧ PyData.depthAll (D.pys ds) ≤ m ∧ PyData.showableAll (D.pys ds) = true
  | [], _ => ⟨Nat.zero_le _, Nat.zero_le _, rfl⟩
  | d :: ds, h => by
    obtain ⟨h1, h2, h3⟩ := fits_sum fun e m => h e (List.mem_cons_of_mem _ m)
    have hd := h d List.mem_cons_self
    refine ⟨?_, ?_, ?_⟩
    · show (d.py.shown.length :: (PyData.shownAll (D.pys ds)).map (·.length)).sum ≤ _
      rw [List.sum_cons, List.length_cons, Nat.mul_add, Nat.mul_one]
      have := hd.le
      omega
    · show PyData.depthAll (d.py :: D.pys ds) ≤ m
      rw [PyData.depthAll]
      have := hd.dp
      omega
    · show (d.py.showable && PyData.showableAll (D.pys ds)) = true
      rw [hd.sh, h3]
      rfl
theorem fit_tup {b n m L : Nat} {ds : List D} (h : ∀ d ∈ ds, Fit b n m d) (hl : ds.length ≤ L) (hL : L ≤ 1000 := by decide) : Fit b ((n + 2) * L + 3) (m + 1) (.tup ds) := by
  obtain ⟨h1, h2, h3⟩ := fits_sum h
  have h4 := tupleText_len_le (PyData.shownAll (D.pys ds))
  rw [PyData.shownAll_length, pys_len] at h4
  have h5 : n * ds.length ≤ n * L := Nat.mul_le_mul_left n hl
  refine ⟨Bool.and_eq_true_iff.mpr ⟨decide_eq_true (by omega), sms_of fun d hd => (h d hd).sm⟩, h3, ?_, ?_⟩
  · show PyData.depth (.tuple (D.pys ds)) ≤ m + 1
    rw [PyData.depth]
    omega
  · show (tupleText (PyData.shownAll (D.pys ds))).length ≤ _
    rw [Nat.add_mul]
    omega
theorem fit_lst {b n m L : Nat} {ds : List D} (h : ∀ d ∈ ds, Fit b n m d) (hl : ds.length ≤ L) (hL : L ≤ 1000 := by decide) : Fit b ((n + 2) * L + 3) (m + 1) (.lst ds) := by
  obtain ⟨h1, h2, h3⟩ := fits_sum h
  have h4 := listText_len_le (PyData.shownAll (D.pys ds))
  rw [PyData.shownAll_length, pys_len] at h4
  have h5 : n * ds.length ≤ n * L := Nat.mul_le_mul_left n hl
  refine ⟨Bool.and_eq_true_iff.mpr ⟨decide_eq_true (by omega), sms_of fun d hd => (h d hd).sm⟩, h3, ?_, ?_⟩
  · show PyData.depth (.list (D.pys ds)) ≤ m + 1
    rw [PyData.depth]
    omega
  · show (listText (PyData.shownAll (D.pys ds))).length ≤ _
    rw [Nat.add_mul]
    omega
theorem fits_nil {b n m : Nat} : ∀ d ∈ ([] : List D), Fit b n m d := fun d h => by cases h
theorem fits_cons {b n m : Nat} {x : D} {xs : List D} (h : Fit b n m x) (g : ∀ d ∈ xs, Fit b n m d) : ∀ d ∈ x :: xs, Fit b n m d := fun d hd => by
  rcases List.mem_cons.mp hd with rfl | hd
  · exact h
  · exact g d hd
theorem fits_app {b n m : Nat} {xs ys : List D} (h : ∀ d ∈ xs, Fit b n m d) (g : ∀ d ∈ ys, Fit b n m d) : ∀ d ∈ xs ++ ys, Fit b n m d := fun d hd => by
  rcases List.mem_append.mp hd with hd | hd
  · exact h d hd
  · exact g d hd
theorem fits_rev {b n m : Nat} {xs : List D} (h : ∀ d ∈ xs, Fit b n m d) : ∀ d ∈ xs.reverse, Fit b n m d := fun d hd => h d (List.mem_reverse.mp hd)
theorem fit_bl {k : Bool} : Fit 0 5 0 (.bl k) := by cases k <;> exact fit_of (by decide +kernel)
theorem fit_non : Fit 0 5 0 .non := fit_of (by decide +kernel)
end DL
/-! errors whose context is None (so that their suites may call), raised and let out; wishes by the slots -/
namespace DL
open PySem PySem.Spec PyProof.Rows L2 LL
section
variable {X : Cx} {F : Fm} {C : Addr} {x n n2 : Str} {a b e : Expr} {es : List Expr} {ta : TA} {p pos pos2 : Pos} {k : Nat}
theorem mkx {n : List (Str × V)} {pins : List (Addr × Obj)} {σ : L2.St} {Q : XK} {h' hp : Heap} {g : Array GenState} {dr : Drawn} {t tk : Nat} {os : OsState} {e d : Addr} {H1 : Hp} {m : Str → Option Value} (I1 : Inv X pins σ H1 ⟨hp, g, dr, t, os⟩)
    (M : Made hp h' e C d m) (rs : Raises X (.ref C)) (rel : ∀ f, RelO (List.lookup f n) (m f)) (q : Q (.ref C) (some d) (upd H1 d (.xd n))) : L2N.MkP X pins σ Q (.ref e) ⟨h', g, dr, tk, os⟩ := by
  obtain ⟨t1, ho⟩ := M.obj
  obtain ⟨G, g1, g2⟩ := restrict h' fun b => decide (b ≠ e)
  have gk : ∀ b, b ≠ e → G.get? b = h'.get? b := fun b hb => g1 b (decide_eq_true hb)
  have ge : G.get? e = none := g2 e (by simp)
  have old : ∀ b o, hp.get? b = some o → G.get? b = some o := fun b o z => (gk b (Nat.ne_of_lt (Nat.lt_of_lt_of_le (Heap.lt_size z) M.big))).trans (M.keep b o z)
  have ob : ObjOk X.prog X.w (upd H1 d (.xd n)) G d (.xd n) := ⟨_, M.ns.at (fun o z => (gk d M.ne).trans z), rel⟩
  have J : Inv X pins σ (upd H1 d (.xd n)) ⟨G, g, dr, tk, os⟩ := I1.laid (t' := tk) old M.dbig ob
  refine ⟨e, _, _, ⟨G, g, dr, tk, os⟩, _, .ref C, some d, rfl, J, ?_, ge, ho, ⟨rfl, rfl, fun vs z => by cases z; rfl⟩, rfl, rfl, ?_, rfl, I1.bare, rs, q⟩
  · intro b o z
    by_cases hb : b = e
    · have z' : G.get? b = some o := z
      rw [hb, ge] at z'
      cases z'
    · exact (gk b hb).symm.trans z
  · rw [upd_ne (Ne.symm M.ne)]
    exact I1.hok.fresh M.big
theorem pmkN2 (T : Er2 X.K X.mg x n n2 C) (rs : Raises X (.ref C)) (hr : Room k X.A) (ha : PA X [a, b] ta) (hg : Gl X x := by rfl) (hdb : (x == ("__debug__" : Str)) = false := by decide)
    (he : starEach [a, b] X.env = (false, eval a X.env) :: starEach [b] X.env := by rfl) (hpl : (backTo pos (starEach [b] X.env)).any (·.1) = false := by rfl) :
    L2N.PMk X (.Call (.Name x p) [a, b] [] pos) (tMkY C n n2 ta) := by
  intro pins s σ H Q I h
  refine wpAny_Call_Name_kw (ld_glob I hg T.gC (PySem.W.callWith_K (h₀ := X.base) I.ok.mod.kin T.kp (thn (ha.run pos pins s σ H _ I h) ?_) he hpl) hdb)
  rintro us s1 ⟨vs, H1, I1, r1, v, v2, rfl, q⟩
  obtain ⟨u, u2, rfl, ru, ru2⟩ := vals2 r1
  refine ⟨I1.kIn, wpAny_call (T.run I1.kIn I1.nolimit (by have := hr.dp; omega) ?_)⟩
  intro h' tk e d M
  exact mkx I1 M rs (relO_put ru2 (relO_put (fs := []) (mA := fun _ => none) ru fun f => True.intro)) (q d (I1.hok.fresh M.dbig))
theorem pmkN1 (T : Er1 X.K X.mg x n C) (rs : Raises X (.ref C)) (hr : Room k X.A) (ha : PA X [a] ta) (hg : Gl X x := by rfl) (hdb : (x == ("__debug__" : Str)) = false := by decide)
    (he : starEach [a] X.env = (false, eval a X.env) :: starEach [] X.env := by rfl) (hpl : (backTo pos (starEach [] X.env)).any (·.1) = false := by rfl) :
    L2N.PMk X (.Call (.Name x p) [a] [] pos) (tMkX C n ta) := by
  intro pins s σ H Q I h
  refine wpAny_Call_Name_kw (ld_glob I hg T.gC (PySem.W.callWith_K (h₀ := X.base) I.ok.mod.kin T.kp (thn (ha.run pos pins s σ H _ I h) ?_) he hpl) hdb)
  rintro us s1 ⟨vs, H1, I1, r1, v, rfl, q⟩
  obtain ⟨u, rfl, ru⟩ : ∃ u, us = [u] ∧ RelV v u := by
    cases r1 with
    | cons r rr => cases rr; exact ⟨_, rfl, r⟩
  refine ⟨I1.kIn, wpAny_call (T.run I1.kIn I1.nolimit (by have := hr.dp; omega) ?_)⟩
  intro h' tk e d M
  exact mkx I1 M rs (relO_put (fs := []) (mA := fun _ => none) ru fun f => True.intro) (q d (I1.hok.fresh M.dbig))
theorem ds_raiseN2 {E : XK} {xr : Er → Prop} {t : DTA} (T : Er2 X.K X.mg x n n2 C) (rs : Raises X (.ref C)) (hc : X.calm = true) (tk : L2N.Takes X (fun cls d _ H => E cls d H)) (hr : Room k X.A) (hE : ExR X.K F E xr) (h : DA X F [a, b] t) (hg : Gl X x := by rfl) (hdb : (x == ("__debug__" : Str)) = false := by decide)
    (he : starEach [a, b] X.env = (false, eval a X.env) :: starEach [b] X.env := by rfl) (hpl : (backTo pos (starEach [b] X.env)).any (·.1) = false := by rfl) :
    DS X F (.Raise (some (.Call (.Name x p) [a, b] [] pos)) none pos2) (dRaise2 C n n2 xr t) :=
  impS (L2N.ps_raise hc tk (pmkN2 T rs hr h hg hdb he hpl)) fun D σ H ⟨env, os, r, D', q, w⟩ =>
    ⟨env, os, r, _, q, fun ds e1 q vs os1 H1 g1 dd => by
      match ds, q, dd with
      | [d1, d2], q, .cons h1 (.cons h2 .nil) =>
        refine ⟨_, _, rfl, fun d nd => hE _ q σ e1 os1 H1 g1.r d _ [_, _] (fun c o _ z => same_new nd _ _ z) (fun b hb => by cases hb) (hid_at upd_same fun m => g1.r.off nd m) rfl ?_⟩
        exact .cons (h2.up (hid_up (same_new nd))) (.cons (h1.up (hid_up (same_new nd))) .nil)⟩
def dRaise1 (C : Addr) (n : Str) (xr : Er → Prop) (t : DTA) : DTS := fun _ env => t env fun ds _ => match ds with
  | [d1] => xr ⟨C, [n], [d1]⟩
  | _ => False
theorem ds_raiseN1 {E : XK} {xr : Er → Prop} {t : DTA} (T : Er1 X.K X.mg x n C) (rs : Raises X (.ref C)) (hc : X.calm = true) (tk : L2N.Takes X (fun cls d _ H => E cls d H)) (hr : Room k X.A) (hE : ExR X.K F E xr) (h : DA X F [a] t) (hg : Gl X x := by rfl) (hdb : (x == ("__debug__" : Str)) = false := by decide)
    (he : starEach [a] X.env = (false, eval a X.env) :: starEach [] X.env := by rfl) (hpl : (backTo pos (starEach [] X.env)).any (·.1) = false := by rfl) :
    DS X F (.Raise (some (.Call (.Name x p) [a] [] pos)) none pos2) (dRaise1 C n xr t) :=
  impS (L2N.ps_raise hc tk (pmkN1 T rs hr h hg hdb he hpl)) fun D σ H ⟨env, os, r, D', q, w⟩ =>
    ⟨env, os, r, _, q, fun ds e1 q vs os1 H1 g1 dd => by
      match ds, q, dd with
      | [d1], q, .cons h1 .nil => exact ⟨_, rfl, fun d nd => hE _ q σ e1 os1 H1 g1.r d _ [_] (fun c o _ z => same_new nd _ _ z) (fun b hb => by cases hb) (hid_at upd_same fun m => g1.r.off nd m) rfl (.cons (h1.up (hid_up (same_new nd))) .nil)⟩⟩
/-- a call of what may raise, in a def that lets it out -/
theorem dcallN {j m : Nat} {f : Addr} {fd : FuncData} {ps : List Str} {df : DF} {E : XK} {xr : Er → Prop} {t : DTA} (Tc : FnT X.prog X.w X.K X.mg X.base (L2N.CX X.prog X.w) k x f fd ps (spD X.K m df)) (hr : Room j X.A) (tk : L2N.Takes X (fun cls d _ H => E cls d H)) (hE : ExR X.K F E xr) (h : DA X F (e :: es) t) (hj : k ≤ j := by decide) (hg : Gl X x := by rfl) (hdb : (x == ("__debug__" : Str)) = false := by decide) (he : starEach (e :: es) X.env = (false, eval e X.env) :: starEach es X.env := by rfl) (hpl : (backTo pos (starEach es X.env)).any (·.1) = false := by rfl) :
    DE X F (.Call (.Name x p) (e :: es) [] pos) (dCall m df xr t) := de_call (E := E) Tc.ok (hr.mono hj) Tc.at_ Tc.kp Tc.bd (L2N.passes_call tk fun _ _ _ _ h => h) hE h hg hdb he hpl
end
section
variable {P : Program} {w : World} {K : PySem.W.Frag} {mg : Str → Option Value} {base : Heap} {x qual : Str} {st : Stmt} {f : Addr} {fd : FuncData} {N ps : List Str} {k n : Nat} {df : DF}
theorem okN {sp : Sp} (Fn : Fun K x qual st f fd) (S : FnScope N ps (defScope st)) (len : ∀ vs H Q E, sp vs H Q E → vs.length = ps.length)
    (hbody : ∀ (cdv : Value) (A : Around) (outer : List Env) (s : Shared) (H : Hp) (vs : List V) (Q : VK) (E : XK), Room k (A.deeper (envOfC qual (defScope st) s.heap.objs.size f cdv)) → sp vs H Q E →
      ∃ t, PSs (cxOf (L2N.CX P w) P w K mg base N qual (defScope st) f cdv A outer s H E) (defBody st) t ∧ t { nx := fun _ H' => Q .non H', rt := Q } (start N vs) H) : FnOk P w K mg base (L2N.CX P w) (k + 1) f fd ps sp := by
  obtain ⟨oc, od, kV, doc, pm, an, cdv, ct, osl, rfl, lk, hcd⟩ := Fn.ex
  exact fn_of lk hcd S len fun A outer s H vs Q E hr hsp => hbody cdv A outer s H vs Q E hr hsp
theorem fn_xN (Fn : Fun K x qual st f fd) (S : FnScope N ps (defScope st)) (hn : ps.length = n := by rfl)
    (body : ∀ (X : Cx) (cdv : Value) (A : Around) (out : List Env) (s : Shared) (H : Hp) (E : XK), X = cxOf (L2N.CX P w) P w K mg base N qual (defScope st) f cdv A out s H E → Room k X.A →
      ∀ xx, ∃ t : DTS, (∀ F0, ExR K F0 E xx → DSs X F0 (defBody st) t) ∧ ∀ ds kk, ds.length = n → df ds kk xx → t (dEnds kk) (env0 N ds)) : FnOk P w K mg base (L2N.CX P w) (k + 1) f fd ps (spD K n df) := by
  refine okN Fn S (fun vs H Q E h => ?_) (fun cdv A out s H vs Q E hr h => ?_)
  · obtain ⟨ds, fr, hl, _⟩ := h
    rw [hl, hn]
  obtain ⟨ds, fr, hl, hf, hd, kk, xx, h, hq, hx⟩ := h
  obtain ⟨t, ht, hk⟩ := body _ cdv A out s H E rfl hr xx
  refine ⟨_, ht ⟨H, [], fr⟩ (fun e q σ env os H' r dd H2 vs k1 _ hd2 hl2 dr => ?_), env0 N ds, fr, R.start hf hd, _, hk ds kk (by rw [← hd.length]; exact hl) h, ends_d hf hq⟩
  refine hx e q dd H2 vs (fun c o n z => k1 c o (fun z => nomatch z) (r.keep c o (fun z => nomatch z) z)) (fun b hb => by cases hb) (hid_sub r.sub _ _ hd2) hl2 (dr.up (hid_sub r.sub))
end
/-! ### wishes by the slots: calls, methods, new objects -/
section
variable {X : Cx} {CX : CXT} {k : Nat} {f C : Addr} {fd : FuncData} {ps : List Str} {sp : Sp} {E : L2.St → XK} {x m : Str} {p pos apos : Pos} {e o : Expr} {es : List Expr} {ta : TE} {t : TA}
def tMethS (C : Addr) (m : Str) (sp : Sp) (E : L2.St → XK) (ta : TE) (t : TA) : TE := fun σ H Q => ta σ H fun x H1 => ∃ a dx fs, x = .ref a ∧ H1 a = some (.ins C dx fs) ∧ fs.lookup m = none ∧ t σ H1 fun vs H2 => sp (x :: vs) H2 Q (E σ)
theorem pe_mS {pl : Sem Bool} (he : PE X o ta) (c : Cls X.K C) (hm : Meth X.K C m f) (G : FnOk X.prog X.w X.K X.mg X.base CX k f fd ps sp) (hr : Room k X.A) (hb : Binds X.K fd ps []) (hx : ∀ σ, PassesAt CX X σ (E σ)) (ha : PA X (e :: es) t)
    (hst : starEach (e :: es) X.env = (false, eval e X.env) :: starEach es X.env := by rfl) (hpl : (backTo pos (starEach es X.env)).any (·.1) = false := by rfl)
    (ht : eval (.Call (.Attribute o m apos) (e :: es) [] pos) X.env = (do let ov ← eval o X.env; standAt apos.atName; let (f, first) ← holding [ov] (getMethod ov m pl); callWith pos f first (backTo pos (starEach (e :: es) X.env)) (backToKw pos (keywordEach [] X.env))) := by rfl) :
    PE X (.Call (.Attribute o m apos) (e :: es) [] pos) (tMethS C m sp E ta t) :=
  ⟨fun pins s σ H Q I h => PySem.W.methodCall_KW (pl := pl) (thn (he.run pins s σ H _ I h) fun u s1 ⟨x, H1, I1, rx, a, dx, fs, ex, ea, l, q⟩ => by
    subst ex; obtain rfl : u = Value.ref a := rx
    exact getmeth_ok I1 ea c hm l (PySem.W.callWith_K (first := [.ref a]) (h₀ := X.base) I.ok.mod.kin hm.kp (thn (ha.run pos pins s1 σ H1 _ I1 q) fun us s2 ⟨vs, H2, I2, r, q2⟩ => ⟨I2.kIn, run_fnS (us := .ref a :: us) (vs := .ref a :: vs) G hr hb (hx σ) I2 (.cons rfl r) q2⟩) hst hpl)) ht⟩
def tMakeS (C : Addr) (sp : Sp) (E : L2.St → XK) (t : TA) : TE := fun σ H Q => t σ H fun vs H1 => ∀ x dx, H1 x = none → H1 dx = none → dx ≠ x → sp (.ref x :: vs) (upd (upd H1 dx (.own x)) x (.ins C dx [])) (fun v H2 => v = .non ∧ Q (.ref x) H2) (E σ)
theorem pe_mkS (M : Mk X.K C f) (G : FnOk X.prog X.w X.K X.mg X.base CX k f fd ps sp) (hr : Room (k + 1) X.A) (hg : Gl X x) (hm : X.mg x = some (.ref C)) (hb : Binds X.K fd ps []) (hx : ∀ σ, PassesAt CX X σ (E σ))
    (ha : PA X (e :: es) t) (hdb : (x == ("__debug__" : Str)) = false := by decide) (he : starEach (e :: es) X.env = (false, eval e X.env) :: starEach es X.env := by rfl) (hpl : (backTo pos (starEach es X.env)).any (·.1) = false := by rfl) :
    PE X (.Call (.Name x p) (e :: es) [] pos) (tMakeS C sp E t) := by
  refine ⟨fun pins s σ H Q I h => wpAny_Call_Name_kw (ld_glob I hg hm (PySem.W.callWith_K (h₀ := X.base) I.ok.mod.kin M.kp (thn (ha.run pos pins s σ H _ I h) fun us s1 ⟨vs, H1, I1, r, q⟩ => ⟨I1.kIn, ?_⟩) he hpl) hdb)⟩
  have hq := q (s1.heap.objs.size + 1) s1.heap.objs.size (I1.hok.fresh (Nat.le_succ _)) (I1.hok.fresh (Nat.le_refl _)) (Nat.ne_of_lt (Nat.lt_succ_self _))
  have I2 := Inv.made (C := C) I1
  have r2 : Vals (V.ref (s1.heap.objs.size + 1) :: vs) (Value.ref (s1.heap.objs.size + 1) :: us) := .cons rfl r
  have hl : (Value.ref (s1.heap.objs.size + 1) :: us).length = ps.length := by rw [← r2.length]; exact G.len _ _ _ _ hq
  have bb := hb _ (Value.ref (s1.heap.objs.size + 1) :: us) I2.kIn (by rw [List.append_nil]; exact hl)
  rw [List.append_nil] at bb
  refine wpAny_call (make_map (f := f) I1.kIn M.makes M.init (beq_iff_eq.mp M.fn) (codeAny_mono (G.run _ X.stack _ _ ⟨Value.ref (s1.heap.objs.size + 1) :: us, []⟩ _ _ _ (E σ) (hr.make C us []) (I2.env0.make C us []) bb r2 hq) fun r s' hq' => ?_))
  match r, hq' with
  | .error e, hq' => exact hx σ pins _ _ e s' I2 hq'
  | .ok (.ret u), hq' =>
    obtain ⟨v, H', I3, rv, ev, q3⟩ := I2.after hq'
    subst ev
    exact ⟨rv, ⟨V.ref (s1.heap.objs.size + 1), H', I3, rfl, q3⟩⟩
  | .ok .next, hq' => exact False.elim hq'
  | .ok .brk, hq' => exact False.elim hq'
  | .ok .cont, hq' => exact False.elim hq'
end
end DL
/-! try .. except C as n, several clauses; defs called in a suite with the error -/
namespace DL
open PySem PySem.Spec PyProof.Rows L2 LL
abbrev TSX := Addr → Value → Option Addr → TS
/-- a suite that holds the error in the slot i -/
def asTs (i : Nat) (ts : TSX) : TSX := fun a cls d D σ H => ts a cls d { nx := fun σ' H' => D.nx (σ'.set i none) H', rt := D.rt, bk := fun σ' H' => D.bk (σ'.set i none) H', ct := fun σ' H' => D.ct (σ'.set i none) H' } (σ.set i (some (.ref a))) H
inductive HdN (X : Cx) : List ExceptHandler → List (Value × TSX) → Prop
  | nil : HdN X [] []
  | as {x n : Str} {c : Value} {i : Nat} {ts : TSX} {b : Stmt} {su : List Stmt} {np po : Pos} {hds : List ExceptHandler} {l : List (Value × TSX)} (hc : Names X x c) (hi : X.N[i]? = some n) (hl : X.env.kindOf n = some .local)
      (hsu : ∀ (a : Addr) (oe : Obj) (cls : Value) (d : Option Addr) (pn : List (Addr × Obj)), L2N.Zn cls d oe → (∃ vs, oe.data = .fields vs) → PSs (X.suite a ((a, oe) :: pn)) (b :: su) (ts a cls d)) (r : HdN X hds l) : HdN X (.ExceptHandler (some (.Name x np)) (some n) (b :: su) po :: hds) ((c, asTs i ts) :: l)
  | no {x : Str} {c : Value} {ts : TSX} {b : Stmt} {su : List Stmt} {np po : Pos} {hds : List ExceptHandler} {l : List (Value × TSX)} (hc : Names X x c)
      (hsu : ∀ (a : Addr) (oe : Obj) (cls : Value) (d : Option Addr) (pn : List (Addr × Obj)), L2N.Zn cls d oe → (∃ vs, oe.data = .fields vs) → PSs (X.suite a ((a, oe) :: pn)) (b :: su) (ts a cls d)) (r : HdN X hds l) : HdN X (.ExceptHandler (some (.Name x np)) none (b :: su) po :: hds) ((c, ts) :: l)
section
variable {X : Cx} {body : List Stmt} {hd0 : ExceptHandler} {hds : List ExceptHandler} {l : List (Value × TSX)} {pos : Pos} {tb : WX → TS} {Wo : WX}
theorem ps_tryN (hs : X.stack = X.env :: X.outer) (hf : X.env.frame = some X.env.locals) (hN : X.N.Nodup) (tk : L2N.Takes X Wo)
    (hb : ∀ (W : WX) (pn : List (Addr × Obj)) (xe : Value → Shared → Prop), L2N.Takes (X.tr pn xe) W → PassesOwn (model X.prog X.w) X.A X.env xe → PSs (X.tr pn xe) body (tb W)) (hh : HdN X (hd0 :: hds) l) :
    PS X (.Try body (hd0 :: hds) [] [] pos) (fun D σ H => tb (wMany X.K Wo D l) D σ H) := by
  refine ⟨fun pins s σ H D I h => wpAny_Try_except ?_⟩
  have ok := I.ok
  refine wpAny_mono ((hb (wMany X.K Wo D l) (X.pn ++ pins) _ (fun u s' xx => ?_) PassesOwn.looking).run [] s σ H D (I.toTry _) h) (fun f s1 hsp => ?_) (fun e s1 he => he)
  · obtain ⟨a, B, sI, _, σ1, H1, cls, d, rfl, J1, nb, up, sky, na, os, ag, w⟩ := xx
    have J : Inv X pins σ1 H1 sI := J1.ofTry ok
    have sk : Sky B (X.env :: X.outer) a (L2N.Zn cls d) X.env.locals s'.heap := by rw [← hs]; exact sky
    show wpAny (model X.prog X.w) X.A (noteFrame (.ref a) X.env) _ _ _
    refine L2N.Sky.land L2N.Zn.steady (by rw [ok.frames, hs]) hf sk fun h3 fl3 up3 => ?_
    have J3 : Inv X pins σ1 H1 { s' with heap := h3 } := J.landed nb fl3.1 (up.trans up3) os ag
    obtain ⟨oe3, vs3, he3, hz3, hd3⟩ := fl3.there
    have nfr : a ∉ frs (X.env :: X.outer) := fun hm => by
      obtain ⟨_, o2, e2, hnf⟩ := fl3.2.2.1.mem hm
      rw [he3] at e2; cases e2; exact hnf _ hd3
    have nL : a ≠ X.env.locals := fun z => nfr (List.mem_filterMap.mpr ⟨X.env, List.mem_cons_self, by rw [hf, z]⟩)
    have nF : a ∉ X.fs := fun hm => by
      obtain ⟨e, he, q⟩ := List.mem_filterMap.mp hm; exact nfr (List.mem_filterMap.mpr ⟨e, List.mem_cons_of_mem _ he, q⟩)
    have S3 := J3.suite he3 hd3 na nL nF
    have seen : ∀ {x : Str} {c : Value} {np : Pos} {b : Bool} {Q : Bool → Shared → Prop} {E : Value → Shared → Prop}, Names X x c → PySem.W.exmOne X.K cls c = some b → (∀ {Q1 : Value → Shared → Prop}, Q1 c { s' with heap := h3 } → wpAny (model X.prog X.w) (X.A.mark (some (.ref a))) (eval (.Name x np) X.env) Q1 E { s' with heap := h3 }) := fun {x c np b Q E} hc _ {Q1} q => by
      obtain ⟨hg, hdbg, hm | ⟨hm, hv, hnn⟩⟩ := hc
      · exact ld_glob (X := X.suite a ((a, oe3) :: (X.pn ++ pins))) S3 hg hm q hdbg
      · exact ld_blt (X := X.suite a ((a, oe3) :: (X.pn ++ pins))) S3 hg hm hv q hnn hdbg
    have LT : PySem.W.Looks (model X.prog X.w) h3 (typeOf (.ref a)) cls := fun A Q E s k q => wpAny_typeOf_ref (k _ _ he3) (by rw [hz3.1]; exact q)
    have go : ∀ {hds : List ExceptHandler} {l : List (Value × TSX)}, HdN X hds l → wMany X.K Wo D l cls d σ1 H1 → wpAny (model X.prog X.w) X.A (handleBy (.ref a) X.env hds) (SP X pins D) X.xe { s' with heap := h3 } := by
      intro hds l hk
      induction hk with
      | nil =>
        intro w
        obtain ⟨_, _, _, oe, vs, T, oT, ts2, he, hz, hd, h1, hr⟩ := id fl3
        have fin : wpAny (model X.prog X.w) X.A (setFlight (.ref a) X.env.frame) (fun _ s4 => wpAny (model X.prog X.w) X.A (throw (.ref a) : Sem Flow) (SP X pins D) X.xe s4) X.xe { s' with heap := h3 } := by
          rw [hf]; exact HandSPX.setFlight_upZ fl3 fun h4 hh4 up4 => wpAny_throw (tk _ _ ⟨a, B, sI, pins, σ1, H1, cls, d, rfl, J, nb, (up.trans up3).trans up4, .inr (.inr (by rw [hs]; exact hh4)), na, os, ag, w⟩)
        refine wpAny_handleBy_nil ?_; unfold PySem.passOn; refine wpAny_bind (wpAny_field he hd h1 ?_); rw [if_neg (show ¬ ((Value.ref T == Value.none) = true) by simp)]
        first | exact wpAny_bind (wpAny_pure (wpAny_bind fin)) | exact wpAny_bind fin
      | @as x n c i ts b0 su np po hds2 l2 hc hi hl hsu r ih =>
        rintro ⟨b, hb1, hyes, hno⟩
        refine wpAny_handleBy_cons (codeAny_handlers_test (seen (Q := fun _ _ => True) hc hb1 ((PySem.W.exm_one (M := model X.prog X.w) J3.kIn LT hb1).here ?_))) (by intro q; cases q)
        cases b with
        | true =>
          refine codeAny_handlers_suite_as (HandSPX.lands_againZ fl3 fun h4 fl4 up4 => ?_)
          have J4 : Inv X pins σ1 H1 { s' with heap := h4 } := J.landed nb fl4.1 ((up.trans up3).trans up4) os ag
          obtain ⟨oe4, vs4, he4, hz4, hd4⟩ := fl4.there
          refine store_ok (X := X.suite a ((a, oe4) :: (X.pn ++ pins))) (v := .ref a) (J4.suite he4 hd4 na nL nF) hN hi (.inl hl) rfl (fun s5 S5 => ?_) (.inr hl)
          refine wpAny_mono ((hsu a oe4 cls d (X.pn ++ pins) hz4 ⟨_, hd4⟩).run [] s5 _ H1 _ S5 (hyes rfl a na)) (fun f s6 hsp => ?_) (fun _ _ z => False.elim z)
          match f, hsp with
          | .next, ⟨σ6, H6, S6, q6⟩ => exact gone_ok (S6.unsuite ok) hN hi hl fun s7 J7 => ⟨_, _, J7, q6⟩
          | .brk, ⟨σ6, H6, S6, q6⟩ => exact gone_ok (S6.unsuite ok) hN hi hl fun s7 J7 => ⟨_, _, J7, q6⟩
          | .cont, ⟨σ6, H6, S6, q6⟩ => exact gone_ok (S6.unsuite ok) hN hi hl fun s7 J7 => ⟨_, _, J7, q6⟩
          | .ret u, ⟨v6, σ6, H6, S6, r6, q6⟩ => exact gone_ok (S6.unsuite ok) hN hi hl fun s7 J7 => ⟨_, _, _, J7, r6, q6⟩
        | false => exact ih (hno rfl)
      | @no x c ts b0 su np po hds2 l2 hc hsu r ih =>
        rintro ⟨b, hb1, hyes, hno⟩
        refine wpAny_handleBy_cons (codeAny_handlers_test (seen (Q := fun _ _ => True) hc hb1 ((PySem.W.exm_one (M := model X.prog X.w) J3.kIn LT hb1).here ?_))) (by intro q; cases q)
        cases b with
        | true =>
          refine codeAny_handlers_suite (HandSPX.lands_againZ fl3 fun h4 fl4 up4 => ?_)
          have J4 : Inv X pins σ1 H1 { s' with heap := h4 } := J.landed nb fl4.1 ((up.trans up3).trans up4) os ag
          obtain ⟨oe4, vs4, he4, hz4, hd4⟩ := fl4.there
          refine wpAny_mono ((hsu a oe4 cls d (X.pn ++ pins) hz4 ⟨_, hd4⟩).run [] _ _ H1 _ (J4.suite he4 hd4 na nL nF) (hyes rfl a na)) (fun f s6 hsp => ?_) (fun _ _ z => False.elim z)
          match f, hsp with
          | .next, ⟨σ6, H6, S6, q6⟩ => exact ⟨_, _, S6.unsuite ok, q6⟩
          | .brk, ⟨σ6, H6, S6, q6⟩ => exact ⟨_, _, S6.unsuite ok, q6⟩
          | .cont, ⟨σ6, H6, S6, q6⟩ => exact ⟨_, _, S6.unsuite ok, q6⟩
          | .ret u, ⟨v6, σ6, H6, S6, r6, q6⟩ => exact ⟨_, _, _, S6.unsuite ok, r6, q6⟩
        | false => exact ih (hno rfl)
    exact go hh w
  · match f, hsp with
    | .next, ⟨σ1, H1, J1, q⟩ => exact wpAny_execs_nil ⟨σ1, H1, J1.ofTry ok, q⟩
    | .brk, ⟨σ1, H1, J1, q⟩ => exact ⟨σ1, H1, J1.ofTry ok, q⟩
    | .cont, ⟨σ1, H1, J1, q⟩ => exact ⟨σ1, H1, J1.ofTry ok, q⟩
    | .ret u, ⟨v, σ1, H1, J1, r, q⟩ => exact ⟨v, σ1, H1, J1.ofTry ok, r, q⟩
end
end DL
/-! try over data -/
namespace DL
open PySem PySem.Spec PyProof.Rows L2 LL
/-- a clause: which classes it takes and which not, the error's slot, the suite by the class and the error's places -/
structure Hn where
  ml : List (Addr × Bool)
  i : Option Nat
  ts : Addr → Addr → Addr → DTS
def Hn.ends (h : Hn) (D : DEnds) : DEnds := match h.i with
  | some i => { nx := fun e => D.nx (e.set i .no), rt := D.rt, bk := fun e => D.bk (e.set i .no), ct := fun e => D.ct (e.set i .no) }
  | none => D
def Hn.env (h : Hn) (a dd : Addr) (e : Er) (env : Ev) : Ev := match h.i with
  | some i => env.set i (.exc a dd e.ns e.ds)
  | none => env
def catch_ (D : DEnds) : List Hn → Er → Ev → Prop
  | [], _, _ => False
  | h :: r, e, env => ∃ b, (e.C, b) ∈ h.ml ∧ (b = true → ∀ a dd, h.ts e.C a dd (h.ends D) (h.env a dd e env)) ∧ (b = false → catch_ D r e env)
def dTry (tb : (Er → Ev → Prop) → DTS) (hs : List Hn) : DTS := fun D env => tb (catch_ D hs) D env
/-- what is wished of errors, by the slots -/
def ExW (K : PySem.W.Frag) (F : Fm) (W : WX) (xr : Er → Ev → Prop) : Prop := ∀ e env, xr e env → ∀ σ os H, R K F os H σ env → ErR K os [] H (fun cls d H' => W cls d σ H') e
def tsV (K : PySem.W.Frag) (F : Fm) (h : Hn) : TSX := fun a cls d D σ H => ∃ C dd, cls = .ref C ∧ d = some dd ∧ (C, true) ∈ h.ml ∧ upS K F (h.ts C a dd) D σ H
inductive HdD (X : Cx) (F : Fm) : List ExceptHandler → List Hn → Prop
  | nil : HdD X F [] []
  | as {x n : Str} {c : Value} {i : Nat} {ml : List (Addr × Bool)} {ts : Addr → Addr → Addr → DTS} {b : Stmt} {su : List Stmt} {np po : Pos} {hds : List ExceptHandler} {l : List Hn} (hc : Names X x c) (hm : ∀ p ∈ ml, PySem.W.exmOne X.K (.ref p.1) c = some p.2)
      (hsu : ∀ (a C dd : Addr) (oe : Obj) (pn : List (Addr × Obj)), (C, true) ∈ ml → L2N.Zn (.ref C) (some dd) oe → (∃ vs, oe.data = .fields vs) → DSs (X.suite a ((a, oe) :: pn)) F (b :: su) (ts C a dd)) (r : HdD X F hds l) (hi : X.N[i]? = some n := by rfl) (hl : X.env.kindOf n = some .local := by rfl) : HdD X F (.ExceptHandler (some (.Name x np)) (some n) (b :: su) po :: hds) (⟨ml, some i, ts⟩ :: l)
  | no {x : Str} {c : Value} {ml : List (Addr × Bool)} {ts : Addr → Addr → Addr → DTS} {b : Stmt} {su : List Stmt} {np po : Pos} {hds : List ExceptHandler} {l : List Hn} (hc : Names X x c) (hm : ∀ p ∈ ml, PySem.W.exmOne X.K (.ref p.1) c = some p.2)
      (hsu : ∀ (a C dd : Addr) (oe : Obj) (pn : List (Addr × Obj)), (C, true) ∈ ml → L2N.Zn (.ref C) (some dd) oe → (∃ vs, oe.data = .fields vs) → DSs (X.suite a ((a, oe) :: pn)) F (b :: su) (ts C a dd)) (r : HdD X F hds l) : HdD X F (.ExceptHandler (some (.Name x np)) none (b :: su) po :: hds) (⟨ml, none, ts⟩ :: l)
section
variable {X : Cx} {F : Fm}
/-- the clauses over values -/
def lV (K : PySem.W.Frag) (F : Fm) : List (Value × Hn) → List (Value × TSX)
  | [] => []
  | (c, h) :: r => (c, match h.i with | some i => asTs i (tsV K F h) | none => tsV K F h) :: lV K F r
theorem HdD.v : ∀ {hds : List ExceptHandler} {l : List Hn}, HdD X F hds l → ∃ cs : List (Value × Hn), cs.map (·.2) = l ∧ HdN X hds (lV X.K F cs) ∧ ∀ q ∈ cs, ∀ p ∈ q.2.ml, PySem.W.exmOne X.K (.ref p.1) q.1 = some p.2
  | _, _, .nil => ⟨[], rfl, .nil, fun q h => by cases h⟩
  | _, _, .as (c := c) (i := i) (ml := ml) (ts := ts) hc hm hsu r hi hl => by
    obtain ⟨cs, e, h, m⟩ := HdD.v r
    refine ⟨(c, ⟨ml, some i, ts⟩) :: cs, by rw [List.map_cons, e], .as hc hi hl (fun a oe cls d pn hz hf => ⟨fun pins s σ H D I ⟨C, dd, e1, e2, m, q⟩ => by subst e1 e2; exact (hsu a C dd oe pn m hz hf).run pins s σ H D I q⟩) h, fun q hq => ?_⟩
    rcases List.mem_cons.mp hq with rfl | hq
    · exact hm
    · exact m q hq
  | _, _, .no (c := c) (ml := ml) (ts := ts) hc hm hsu r => by
    obtain ⟨cs, e, h, m⟩ := HdD.v r
    refine ⟨(c, ⟨ml, none, ts⟩) :: cs, by rw [List.map_cons, e], .no hc (fun a oe cls d pn hz hf => ⟨fun pins s σ H D I ⟨C, dd, e1, e2, m, q⟩ => by subst e1 e2; exact (hsu a C dd oe pn m hz hf).run pins s σ H D I q⟩) h, fun q hq => ?_⟩
    rcases List.mem_cons.mp hq with rfl | hq
    · exact hm
    · exact m q hq
theorem R.exc {K : PySem.W.Frag} {os : List Addr} {H : Hp} {σ : L2.St} {env : Ev} (r : R K F os H σ env) {i : Nat} {a dd : Addr} {ns : List Str} {vs : List V} {ds : List D} (hd : hid os H dd = some (.xd (ns.zip vs))) (hl : ns.length = vs.length) (h : DrA K (hid os H) vs ds) : R K F os H (σ.set i (some (.ref a))) (env.set i (.exc a dd ns ds)) := r.set ⟨rfl, vs, hd, hl, h⟩ fun b z => nomatch z
theorem set_none {K : PySem.W.Frag} {os : List Addr} {H : Hp} {σ : L2.St} {env : Ev} (r : R K F os H σ env) {i : Nat} : R K F os H (σ.set i none) (env.set i .no) := by
  have ads : ∀ j a, adAt (env.set i .no) j = some a → adAt env j = some a := fun j a e => by
    rw [adAt_set] at e
    by_cases h1 : i = j ∧ i < env.length
    · rw [if_pos h1] at e; cases e
    · rw [if_neg h1] at e; exact e
  refine ⟨by rw [List.length_set, List.length_set]; exact r.len, fun j t e => ?_, fun j l a e1 e2 => r.nd j l a (ads _ _ e1) (ads _ _ e2), fun j a e => r.mem j a (ads _ _ e), r.keep, fun j a e => r.new j a (ads _ _ e), r.sub, r.here, r.hB, r.osn⟩
  rw [List.getElem?_set] at e ⊢
  by_cases h : i = j
  · subst h
    rw [if_pos rfl] at e ⊢
    by_cases l : i < env.length
    · rw [if_pos l] at e
      cases e
      rw [if_pos (by rw [← r.len]; exact l)]
      exact ⟨_, rfl, rfl⟩
    · rw [if_neg l] at e; cases e
  · rw [if_neg h] at e ⊢
    exact r.sl j t e
theorem catch_v {D' : DEnds} {D : Ends} {Wo : WX} (w : EndsR X.K F D' D) : ∀ (cs : List (Value × Hn)), (∀ q ∈ cs, ∀ p ∈ q.2.ml, PySem.W.exmOne X.K (.ref p.1) q.1 = some p.2) → ExW X.K F (wMany X.K Wo D (lV X.K F cs)) (catch_ D' (cs.map (·.2)))
  | [], _, e, env, h => h.elim
  | (c, hn) :: cs, hm, e, env, ⟨b, mb, hy, hno⟩ => fun σ os H r dd H' vs kp bg hd hl dr => by
    have ih := catch_v (Wo := Wo) w cs (fun q hq => hm q (List.mem_cons_of_mem _ hq))
    have sm : Same H H' := fun c o z => kp c o (fun z => nomatch z) z
    refine ⟨b, hm _ List.mem_cons_self _ mb, fun hb a na => ?_, fun hb => ih e env (hno hb) σ os H r dd H' vs kp bg hd hl dr⟩
    subst hb
    have q := hy rfl a dd
    have r1 := r.same sm
    obtain ⟨ml, i, ts⟩ := hn
    cases i with
    | some i =>
      refine ⟨e.C, dd, rfl, rfl, mb, env.set i (.exc a dd e.ns e.ds), os, r1.exc hd hl dr, _, q, ?_⟩
      exact ⟨fun e1 q os1 σ1 H1 r => w.nx _ q os1 _ H1 (set_none r), w.rt, fun e1 q os1 σ1 H1 r => w.bk _ q os1 _ H1 (set_none r), fun e1 q os1 σ1 H1 r => w.ct _ q os1 _ H1 (set_none r)⟩
    | none => exact ⟨e.C, dd, rfl, rfl, mb, env, os, r1, _, q, w⟩
theorem ds_try {body : List Stmt} {hd0 : ExceptHandler} {hds : List ExceptHandler} {pos : Pos} {tb : (Er → Ev → Prop) → DTS} {l : List Hn} (hN : X.N.Nodup) (hh : HdD X F (hd0 :: hds) l)
    (hb : ∀ (W : WX) (pn : List (Addr × Obj)) (xe : Value → Shared → Prop), L2N.Takes (X.tr pn xe) W → PassesOwn (model X.prog X.w) X.A X.env xe → ∀ xr, ExW X.K F W xr → DSs (X.tr pn xe) F body (tb xr))
    (hs : X.stack = X.env :: X.outer := by rfl) (hf : X.env.frame = some X.env.locals := by rfl) : DS X F (.Try body (hd0 :: hds) [] [] pos) (dTry tb l) := by
  obtain ⟨cs, rfl, hv, hm⟩ := hh.v
  have tk0 : L2N.Takes X (fun _ _ _ _ => False) := fun _ _ x => by
    obtain ⟨_, _, _, _, _, _, _, _, _, _, _, _, _, _, _, _, z⟩ := x
    exact z.elim
  refine impS (ps_tryN (tb := fun W D σ H => ∃ xr, ExW X.K F W xr ∧ upS X.K F (tb xr) D σ H) hs hf hN tk0 (fun W pn xe tk po => ⟨fun pins s σ H D I ⟨xr, hx, h⟩ => (hb W pn xe tk po xr hx).run pins s σ H D I h⟩) hv) ?_
  rintro D σ H ⟨env, os, r, D', q, w⟩
  exact ⟨_, catch_v w cs hm, env, os, r, D', q, w⟩
end
/-! ### in the body: calls, new objects, methods; errors wished by the slots -/
def dCallT (n : Nat) (f : DF) (xr : Er → Ev → Prop) (t : DTA) : DTE := fun env Q => t env fun ds e1 => ds.length = n ∧ f ds (fun d => Q d e1) (fun e => xr e e1)
section
variable {X : Cx} {F : Fm} {k j m : Nat} {f : Addr} {fd : FuncData} {ps : List Str} {df : DF} {x : Str} {p pos : Pos} {e : Expr} {es : List Expr} {t : DTA} {W : WX} {xr : Er → Ev → Prop}
theorem dcallT (Tc : FnT X.prog X.w X.K X.mg X.base (L2N.CX X.prog X.w) k x f fd ps (spD X.K m df)) (hr : Room j X.A) (tk : L2N.Takes X W) (hE : ExW X.K F W xr) (h : DA X F (e :: es) t) (hj : k ≤ j := by decide) (hg : Gl X x := by rfl) (hdb : (x == ("__debug__" : Str)) = false := by decide) (he : starEach (e :: es) X.env = (false, eval e X.env) :: starEach es X.env := by rfl) (hpl : (backTo pos (starEach es X.env)).any (·.1) = false := by rfl) :
    DE X F (.Call (.Name x p) (e :: es) [] pos) (dCallT m df xr t) :=
  imp (pe_callS Tc.ok (hr.mono hj) hg Tc.at_ Tc.kp Tc.bd (fun σ => L2N.passAt tk σ) h hdb he hpl) fun σ H Q ⟨env, os, r0, Q', z, fin⟩ =>
    ⟨env, os, r0, _, z, fun ds e1 ⟨l, q⟩ vs os1 H1 g1 h1 => ⟨ds, os1, by rw [h1.length]; exact l, g1.r.here, h1, _, _, q, fun d q v H' s w => fin _ _ q v os1 H' (g1.trans r0 (Go.same g1.r s)) w, fun er q => hE er e1 q σ os1 H1 g1.r⟩⟩
end
end DL
/-! objects as data: fields, properties, methods; the error in its suite -/
namespace DL
open PySem PySem.Spec PyProof.Rows L2 LL
theorem lookup_zip {K : PySem.W.Frag} {H : Hp} {f : Str} {d : D} : ∀ {ns : List Str} {vs : List V} {ds : List D}, DrA K H vs ds → (ns.zip ds).lookup f = some d → ∃ v, (ns.zip vs).lookup f = some v ∧ Dr K H v d
  | [], _, _, _, h => by simp at h
  | n :: ns, _, _, .nil, h => by simp at h
  | n :: ns, v :: vs, d' :: ds, .cons h1 h2, h => by
    rw [List.zip_cons_cons, List.lookup_cons] at h ⊢
    cases q : (f == n) with
    | true => rw [q] at h; cases h; exact ⟨v, rfl, h1⟩
    | false => rw [q] at h; exact lookup_zip h2 h
theorem lookup_no {f : Str} : ∀ {ns : List Str} {vs : List V}, f ∉ ns → (ns.zip vs).lookup f = none
  | [], _, _ => by simp
  | n :: ns, [], _ => by simp
  | n :: ns, v :: vs, h => by
    have hn : f ≠ n := fun z => h (by rw [z]; exact List.mem_cons_self)
    have q : (f == n) = false := by simpa using hn
    rw [List.zip_cons_cons, List.lookup_cons, q]
    exact lookup_no fun z => h (List.mem_cons_of_mem _ z)
/-- e.f of an object of the class at C -/
def dFld (C : Addr) (f : Str) (t : DTE) : DTE := fun env Q => t env fun d e1 => match d with
  | .obj C' ns ds => C' = C ∧ (match (ns.zip ds).lookup f with | some d => Q d e1 | none => False)
  | _ => False
def isO (C : Addr) : D → Prop
  | .obj C' _ _ => C' = C
  | _ => False
theorem Dr.ins {K : PySem.W.Frag} {H : Hp} {v : V} {d : D} {C : Addr} (h : Dr K H v d) (q : isO C d) : ∃ a dx ns vs ds, v = .ref a ∧ d = .obj C ns ds ∧ H a = some (.ins C dx (ns.zip vs)) ∧ ns.length = vs.length ∧ DrA K H vs ds := by
  cases d with
  | obj C' ns ds =>
    have q : C' = C := q
    subst q
    cases h with
    | obj h1 h2 h3 => exact ⟨_, _, ns, _, ds, rfl, rfl, h1, h2, h3⟩
  | _ => exact q.elim
section
variable {X : Cx} {F : Fm} {C f g pp : Addr} {n m x : Str} {e o : Expr} {es : List Expr} {p pos apos : Pos} {t : DTE} {ta : DTA} {k j i : Nat} {fd : FuncData} {ps : List Str} {df : DF} {q : Nat}
theorem de_fld (c : Cls X.K C) (na : NoAttr X.K C n) (h : DE X F e t) (hb : attributeBase e n X.env (eval e X.env) = eval e X.env := by rfl) : DE X F (.Attribute e n pos) (dFld C n t) :=
  imp (pe_fld h hb) fun σ H Q ⟨env, os, r, Q', z, fin⟩ => ⟨env, os, r, _, z, fun d e1 q v os1 H1 g1 hd => by
    cases d with
    | obj C' ns ds =>
      obtain ⟨rfl, q⟩ := q
      cases hd with
      | obj h1 h2 h3 =>
        cases l : (ns.zip ds).lookup n with
        | none => rw [l] at q; exact q.elim
        | some d =>
          rw [l] at q
          obtain ⟨v, l2, dv⟩ := lookup_zip h3 l
          exact ⟨_, _, _, _, v, rfl, (hid_of h1).1, c, na, l2, fin _ _ q v os1 H1 g1 dv⟩
    | _ => exact q.elim⟩
/-- e.f, a property -/
def dProp (C : Addr) (df : DF) (t : DTE) : DTE := fun env Q => t env fun d e1 => isO C d ∧ df [d] (fun d => Q d e1) fun _ => False
structure PrT (P : Program) (w : World) (K : PySem.W.Frag) (mg : Str → Option Value) (base : Heap) (k : Nat) (C : Addr) (n : Str) (df : DF) : Prop where
  ex : ∃ pp g fd, PropOf K C n pp g ∧ FnOk P w K mg base CX0 k g fd ["self"] (spD K 1 df) ∧ Binds K fd ["self"] []
theorem de_prop (c : Cls X.K C) (T : PrT X.prog X.w X.K X.mg X.base k C n df) (hr : Room j X.A) (h : DE X F e t) (hj : k + 1 ≤ j := by decide) (hb : attributeBase e n X.env (eval e X.env) = eval e X.env := by rfl) : DE X F (.Attribute e n pos) (dProp C df t) := by
  obtain ⟨pp, g, fd, hp, G, bd⟩ := T.ex
  exact imp (pe_prop (E := fun _ _ _ => False) h c hp G (hr.mono hj) bd .nil pass0 hb) fun σ H Q ⟨env, os, r, Q', z, fin⟩ => ⟨env, os, r, _, z, fun d e1 ⟨io, q⟩ v os1 H1 g1 hd => by
    obtain ⟨a, dx, ns, vs, ds, rfl, rfl, h1, h2, h3⟩ := hd.ins io
    exact ⟨a, dx, _, rfl, (hid_of h1).1, [.obj C ns ds], os1, rfl, g1.r.here, .cons hd .nil, _, _, q, fun d q v H' s w => fin _ _ q v os1 H' (g1.trans r (Go.same g1.r s)) w, fun er z => z.elim⟩⟩
/-- o.m(e, ..): the class, the fields that an object has, the meaning -/
def noF (m : Str) : D → Prop
  | .obj _ ns _ => m ∉ ns
  | _ => False
def dMeth (C : Addr) (m : Str) (n : Nat) (df : DF) (xr : Er → Prop) (t : DTE) (ta : DTA) : DTE := fun env Q => t env fun d e1 => (isO C d ∧ noF m d) ∧ ta e1 fun ds e2 => ds.length = n ∧ df (d :: ds) (fun d => Q d e2) xr
structure MtT (P : Program) (w : World) (K : PySem.W.Frag) (mg : Str → Option Value) (base : Heap) (CX : CXT) (k : Nat) (C : Addr) (m : Str) (n : Nat) (df : DF) : Prop where
  ex : ∃ f fd ps, Meth K C m f ∧ FnOk P w K mg base CX k f fd ps (spD K (n + 1) df) ∧ Binds K fd ps []
theorem meth_run {K : PySem.W.Frag} {C : Addr} {m : Str} {n : Nat} {df : DF} {E : XK} {xr : Er → Prop} {t : DTE} {ta : DTA} {σ : L2.St} {H : Hp} {Q : VK} (hE : ExR K F E xr) (h : upE K F (dMeth C m n df xr t ta) σ H Q) : tMeth C m (spD K (n + 1) df) [] E (upE K F t) (upA K F ta) σ H Q := by
  obtain ⟨env, os, r, Q', z, fin⟩ := h
  refine ⟨env, os, r, _, z, fun d e1 ⟨⟨io, nf⟩, q⟩ v os1 H1 g1 hd => ?_⟩
  obtain ⟨a, dx, ns, vs, ds, rfl, rfl, h1, h2, h3⟩ := hd.ins io
  refine ⟨a, dx, _, rfl, (hid_of h1).1, lookup_no nf, e1, os1, g1.r, _, q, fun es e2 ⟨l, q⟩ ws os2 H2 g2 hw => ?_⟩
  show spD K (n + 1) df (V.ref a :: (ws ++ [])) H2 Q E
  rw [List.append_nil]
  exact ⟨.obj C ns ds :: es, os2, by rw [List.length_cons, hw.length, l], g2.r.here, .cons (hd.up (g2.hs g1.r)) hw, _, _, q, fun d q v H' s w => fin _ _ q v os2 H' ((g1.trans r g2).trans r (Go.same g2.r s)) w, fun er q => hE er q σ e2 os2 H2 g2.r⟩
theorem de_meth {pl : Sem Bool} (c : Cls X.K C) (T : MtT X.prog X.w X.K X.mg X.base CX0 k C m q df) (hr : Room j X.A) (ho : DE X F o t) (ha : DA X F (e :: es) ta) (hj : k ≤ j := by decide)
    (hst : starEach (e :: es) X.env = (false, eval e X.env) :: starEach es X.env := by rfl) (hpl : (backTo pos (starEach es X.env)).any (·.1) = false := by rfl)
    (ht : eval (.Call (.Attribute o m apos) (e :: es) [] pos) X.env = (do let ov ← eval o X.env; standAt apos.atName; let (f, first) ← holding [ov] (getMethod ov m pl); callWith pos f first (backTo pos (starEach (e :: es) X.env)) (backToKw pos (keywordEach [] X.env))) := by rfl) :
    DE X F (.Call (.Attribute o m apos) (e :: es) [] pos) (dMeth C m q df (fun _ => False) t ta) := by
  obtain ⟨f, fd, ps, hm, G, bd⟩ := T.ex
  exact imp (pe_meth (E := fun _ _ _ => False) (pl := pl) ho c hm G (hr.mono hj) bd .nil pass0 ha hst hpl ht) fun σ H Q h => meth_run (fun _ z => z.elim) h
theorem de_methN {pl : Sem Bool} {E : XK} {xr : Er → Prop} (c : Cls X.K C) (T : MtT X.prog X.w X.K X.mg X.base (L2N.CX X.prog X.w) k C m q df) (hr : Room j X.A) (tk : L2N.Takes X (fun cls d _ H => E cls d H)) (hE : ExR X.K F E xr) (ho : DE X F o t) (ha : DA X F (e :: es) ta) (hj : k ≤ j := by decide)
    (hst : starEach (e :: es) X.env = (false, eval e X.env) :: starEach es X.env := by rfl) (hpl : (backTo pos (starEach es X.env)).any (·.1) = false := by rfl)
    (ht : eval (.Call (.Attribute o m apos) (e :: es) [] pos) X.env = (do let ov ← eval o X.env; standAt apos.atName; let (f, first) ← holding [ov] (getMethod ov m pl); callWith pos f first (backTo pos (starEach (e :: es) X.env)) (backToKw pos (keywordEach [] X.env))) := by rfl) :
    DE X F (.Call (.Attribute o m apos) (e :: es) [] pos) (dMeth C m q df xr t ta) := by
  obtain ⟨f, fd, ps, hm, G, bd⟩ := T.ex
  exact imp (pe_meth (E := E) (pl := pl) ho c hm G (hr.mono hj) bd .nil (L2N.passes_call tk fun _ _ _ _ h => h) ha hst hpl ht) fun σ H Q h => meth_run hE h
def dMethT (C : Addr) (m : Str) (n : Nat) (df : DF) (xr : Er → Ev → Prop) (t : DTE) (ta : DTA) : DTE := fun env Q => t env fun d e1 => (isO C d ∧ noF m d) ∧ ta e1 fun ds e2 => ds.length = n ∧ df (d :: ds) (fun d => Q d e2) fun e => xr e e2
theorem de_methT {pl : Sem Bool} {W : WX} {xr : Er → Ev → Prop} (c : Cls X.K C) (T : MtT X.prog X.w X.K X.mg X.base (L2N.CX X.prog X.w) k C m q df) (hr : Room j X.A) (tk : L2N.Takes X W) (hE : ExW X.K F W xr) (ho : DE X F o t) (ha : DA X F (e :: es) ta) (hj : k ≤ j := by decide)
    (hst : starEach (e :: es) X.env = (false, eval e X.env) :: starEach es X.env := by rfl) (hpl : (backTo pos (starEach es X.env)).any (·.1) = false := by rfl)
    (ht : eval (.Call (.Attribute o m apos) (e :: es) [] pos) X.env = (do let ov ← eval o X.env; standAt apos.atName; let (f, first) ← holding [ov] (getMethod ov m pl); callWith pos f first (backTo pos (starEach (e :: es) X.env)) (backToKw pos (keywordEach [] X.env))) := by rfl) :
    DE X F (.Call (.Attribute o m apos) (e :: es) [] pos) (dMethT C m q df xr t ta) := by
  obtain ⟨f, fd, ps, hm, G, bd⟩ := T.ex
  refine imp (pe_mS (pl := pl) ho c hm G (hr.mono hj) bd (fun σ => L2N.passAt tk σ) ha hst hpl ht) fun σ H Q ⟨env, os, r, Q', z, fin⟩ => ⟨env, os, r, _, z, fun d e1 ⟨⟨io, nf⟩, q⟩ v os1 H1 g1 hd => ?_⟩
  obtain ⟨a, dx, ns, vs, ds, rfl, rfl, h1, h2, h3⟩ := hd.ins io
  refine ⟨a, dx, _, rfl, (hid_of h1).1, lookup_no nf, e1, os1, g1.r, _, q, fun es e2 ⟨l, q⟩ ws os2 H2 g2 hw => ?_⟩
  exact ⟨.obj C ns ds :: es, os2, by rw [List.length_cons, hw.length, l], g2.r.here, .cons (hd.up (g2.hs g1.r)) hw, _, _, q, fun d q v H' s w => fin _ _ q v os2 H' ((g1.trans r g2).trans r (Go.same g2.r s)) w, fun er q => hE er e2 q σ os2 H2 g2.r⟩
end
/-! ### the error in its suite -/
def Pin (X : Cx) (a C dd : Addr) : Prop := ∃ oe, (a, oe) ∈ X.pn ∧ L2N.Zn (.ref C) (some dd) oe ∧ ∃ vs, oe.data = .fields vs
def dXf (i : Nat) (a dd : Addr) (n : Str) : DTE := fun env Q => match env[i]? with
  | some (.exc a' dd' ns ds) => (a' = a ∧ dd' = dd) ∧ (match (ns.zip ds).lookup n with | some d => Q d env | none => False)
  | _ => False
def dIsX (i : Nat) (a dd : Addr) (b : Bool) : DTE := fun env Q => match env[i]? with
  | some (.exc a' dd' ns ds) => (a' = a ∧ dd' = dd) ∧ Q (.bl b) env
  | _ => False
section
variable {X : Cx} {F : Fm} {a C dd : Addr} {n x : Str} {e : Expr} {p p2 pos : Pos} {i : Nat}
theorem exc_at {K : PySem.W.Frag} {os : List Addr} {H : Hp} {σ : L2.St} {env : Ev} (r : R K F os H σ env) {ns : List Str} {ds : List D} (e : env[i]? = some (.exc a dd ns ds)) : σ[i]? = some (some (.ref a)) ∧ ∃ vs, hid os H dd = some (.xd (ns.zip vs)) ∧ ns.length = vs.length ∧ DrA K (hid os H) vs ds := by
  obtain ⟨x, e1, rfl, vs, q⟩ := r.sl i _ e
  exact ⟨e1, vs, q⟩
theorem de_xf (T : XfC X.K C) (hno : PySem.W.findIn X.K (.ref C) n = some none) (hp : Pin X a C dd) (hv : PE X e (tVar i)) (hb : attributeBase e n X.env (eval e X.env) = eval e X.env := by rfl) : DE X F (.Attribute e n pos) (dXf i a dd n) := by
  refine ⟨fun pins s σ H Q I ⟨env, os, r, Q', q, fin⟩ => ?_⟩
  unfold dXf at q
  cases hs : env[i]? with
  | none => rw [hs] at q; exact q.elim
  | some sl =>
    rw [hs] at q
    cases sl with
    | exc a' dd' ns ds =>
      obtain ⟨⟨rfl, rfl⟩, q⟩ := q
      obtain ⟨e1, vs, hd, hl, da⟩ := exc_at r hs
      cases l : (ns.zip ds).lookup n with
      | none => rw [l] at q; exact q.elim
      | some d =>
        rw [l] at q
        obtain ⟨v, l2, dv⟩ := lookup_zip da l
        obtain ⟨oe, hm, hz, ws, hw⟩ := hp
        refine attr_of hb (thn (hv.run pins s σ H (fun x H1 => x = .ref a' ∧ H1 = H) I ⟨_, e1, rfl, rfl⟩) fun u s1 ⟨x, H1, I1, rx, ex, eH⟩ => ?_)
        subst ex eH
        obtain rfl : u = Value.ref a' := rx
        have ha := (I1.pin (a', oe) (List.mem_append_left _ hm)).1
        obtain ⟨mA, hns, hr⟩ := (show ObjOk X.prog X.w H1 s1.heap dd' (.xd (ns.zip vs)) from I1.hok dd' _ (hid_of hd).1)
        obtain ⟨od, ho, hlk⟩ := lookIn_ns hns
        obtain ⟨u, hu, ru⟩ := RelO.some_of (v := v) (o := mA n) (by rw [← l2]; exact hr n)
        have J : PySem.W.InstAt s1.heap a' oe C (some od) := ⟨ha, hz.1, by unfold PySem.W.notCls; rw [hw] <;> rfl, by rw [hz.2.1]; exact ho⟩
        exact HandSPX.exc_get I1.kIn J T.ga T.gg T.exC (PySem.W.findObj_own T.hdC hno rfl (by rw [hlk, hu])) (handed_of ru) ⟨v, H1, I1.tok _, ru, fin _ _ q v os H1 (Go.refl r) dv⟩
    | _ => exact q.elim
theorem call_isP (T : ErC X.K C) (G : ClG X.K) (hp : Pin X a C dd) : CallR X (.builtin "isinstance") (rIsS X.K C a (.ref C) (some dd)) := by
  intro pins s σ H xs us Q I r h
  obtain ⟨c, cv, b, d2, fs, rfl, _, kc, ed, hx, e, q⟩ := h
  cases ed
  obtain ⟨u1, u2, rfl, r1, r2⟩ := vals2 r
  cases r1
  obtain rfl := kc.eq r2
  obtain ⟨oe, hm, hz, vs, hv⟩ := hp
  have hget := (I.pin (a, oe) (List.mem_append_left _ hm)).1
  obtain ⟨cd, hc, _⟩ := PySem.W.any_some T.hd
  obtain ⟨mA, hns, _⟩ := (show ObjOk X.prog X.w H s.heap dd (.xd fs) from I.hok dd _ hx)
  obtain ⟨od, hod, _⟩ := lookIn_ns hns
  have J : PySem.W.InstAt s.heap a oe C (some od) := ⟨hget, hz.1, by unfold PySem.W.notCls; rw [hv] <;> rfl, by rw [hz.2.1]; exact hod⟩
  exact PySem.W.kia_one (PySem.W.kitx_exc (by rw [hc]; rfl) T.ga T.gg T.sub T.cl G.sp G.tk T.mr) I.kIn J e (fun z => nomatch z) fun tk => ⟨.bl b, H, I.kept (t' := tk) fun _ _ z => z, rfl, q⟩
theorem de_isX {ce : Expr} {c : V} {cv : Value} {b : Bool} (T : ErC X.K C) (G : ClG X.K) (hp : Pin X a C dd) (hk : PySem.W.kitOne X.K (.ref C) cv = some b) (kc : ClsV c cv) (mi : X.mg "isinstance" = none) (hv : PE X e (tVar i)) (hc : PE X ce (tC c)) (hg : Gl X "isinstance" := by rfl)
    (he : starEach [e, ce] X.env = (false, eval e X.env) :: starEach [ce] X.env := by rfl) (he2 : starEach [ce] X.env = (false, eval ce X.env) :: starEach [] X.env := by rfl) (hpl : (backTo pos (starEach [ce] X.env)).any (·.1) = false := by rfl) :
    DE X F (.Call (.Name "isinstance" p) [e, ce] [] pos) (dIsX i a dd b) :=
  imp (pe_callB (pos := pos) (p := p) (call_isP T G hp) hg mi (by decide +kernel) (pa_cons hv (pa_cons hc pa_nil he2) he) (by decide) (by decide) he hpl) fun σ H Q ⟨env, os, r, Q', q, fin⟩ => by
    unfold dIsX at q
    cases hs : env[i]? with
    | none => rw [hs] at q; exact q.elim
    | some sl =>
      rw [hs] at q
      cases sl with
      | exc a' dd' ns ds =>
        obtain ⟨⟨rfl, rfl⟩, q⟩ := q
        obtain ⟨e1, vs, hd, hl, da⟩ := exc_at r hs
        exact ⟨_, e1, c, cv, b, dd', _, rfl, rfl, kc, rfl, (hid_of hd).1, hk, fin _ _ q _ os H (Go.refl r) (.bl b)⟩
      | _ => exact q.elim
end
end DL
/-! defs that a suite calls with its error -/
namespace DL
open PySem PySem.Spec PyProof.Rows L2 LL L2H
/-- run where p is handled, an error of the class at C with its dict at dd -/
structure FnE (P : Program) (w : World) (K : PySem.W.Frag) (mg : Str → Option Value) (base : Heap) (k : Nat) (f : Addr) (fd : FuncData) (ps : List Str) (C : Addr) (sp : Addr → Addr → Sp) : Prop where
  len : ∀ a dd vs H Q E, sp a dd vs H Q E → vs.length = ps.length
  go : ∀ (A : Around) (out : List Env) (s : Shared) (H : Hp) (args : Args) (us : List Value) (vs : List V) (Q : VK) (E : XK) (p : Addr × Obj) (dd : Addr), RoomH k A → Hot1 A p → L2N.Zn (.ref C) (some dd) p.2 → PinOk out H s p → Env0 P w K mg base A out s H → BindsTo s fd args (ps.zip us) → Vals vs us → sp p.1 dd vs H Q E →
    codeAny (model P w) A (.call (.ref f) args) (CR CX0 out P w H s Q E) s
section
variable {P : Program} {w : World} {K : PySem.W.Frag} {mg : Str → Option Value} {base : Heap} {x qual : Str} {st : Stmt} {f C : Addr} {fd : FuncData} {N ps : List Str} {k : Nat}
theorem fnE_of {sp : Addr → Addr → Sp} (Fn : Fun K x qual st f fd) (S : FnScope N ps (defScope st)) (len : ∀ a dd vs H Q E, sp a dd vs H Q E → vs.length = ps.length)
    (hbody : ∀ (cdv : Value) (A : Around) (out : List Env) (s : Shared) (H : Hp) (vs : List V) (Q : VK) (E : XK) (p : Addr × Obj) (dd : Addr), Hot1 A p → L2N.Zn (.ref C) (some dd) p.2 → RoomH k (A.deeper (envOfC qual (defScope st) s.heap.objs.size f cdv)) → sp p.1 dd vs H Q E →
      ∃ t, PSs (cxH CX0 P w K mg base N qual (defScope st) f cdv A out s H E p) (defBody st) t ∧ t { nx := fun _ H' => Q .non H', rt := Q } (L2.start N vs) H) : FnE P w K mg base (k + 1) f fd ps C sp := by
  obtain ⟨oc, od, kV, doc, pm, an, cdv, ct, osl, rfl, lk, hcd⟩ := Fn.ex
  refine ⟨len, fun A out s H args us vs Q E p dd hr hot hz pin e0 hb r hsp => ?_⟩
  have up : ∀ b o, base.get? b = some o → s.heap.get? b = some o := fun b o e => (e0.bs b o e).1
  have KX : K.In s.heap := e0.mod.kin.keeps up
  refine codeAny_call_function hr.depth (KX _ _ lk) rfl S.co S.gen rfl (PySem.W.codeRec_of KX hcd) (hb _ _ _ _ (wpAny_newFunctionEnv_cells S.kind (fun ⟨n, v⟩ hy => ?_) fun env he s1 xc => ?_))
  · rcases S.par n (List.of_mem_zip hy).1 with q | q
    · exact .inl q
    · exact .inr ⟨q, PySem.W.cellsFrom_some _ _ _ (.inl q)⟩
  subst he
  obtain ⟨t, ht, hq⟩ := hbody cdv A out s H vs Q E p dd hot hz (hr.deeper _) hsp
  have J := inv_startH (CX := CX0) (P := P) (w := w) (mg := mg) (base := base) (E := E) S pin e0 (len _ _ _ _ _ _ hsp) r xc
  refine ⟨(e0.mod.nolimit.keeps up).keeps xc.toInCall.keep, codeAny_func (wpAny_mono (ht.run [] s1 (L2.start N vs) H _ J hq) (fun fl s2 hs => ?_) fun _ _ z => z)⟩
  match fl, hs with
  | .ret u, ⟨v, σ2, H2, J2, rv, q⟩ => exact ⟨v, H2, J2.os, J2.bare, J2.base, J2.hok, rv, q⟩
  | .next, ⟨σ2, H2, J2, q⟩ => exact ⟨.non, H2, J2.os, J2.bare, J2.base, J2.hok, rfl, q⟩
  | .brk, ⟨_, _, _, q⟩ => exact q.elim
  | .cont, ⟨_, _, _, q⟩ => exact q.elim
end
/-- the meaning of such a def by the error's fields -/
abbrev DFE := List Str → List D → (D → Prop) → Prop
def spE (K : PySem.W.Frag) (df : DFE) : Addr → Addr → Sp := fun a dd vs H Q _ => ∃ (fr : List Addr) (ns : List Str) (us : List V) (ds : List D) (k : D → Prop), vs = [.ref a] ∧ (∀ a ∈ fr, H a ≠ none) ∧ hid fr H dd = some (.xd (ns.zip us)) ∧ ns.length = us.length ∧ DrA K (hid fr H) us ds ∧ df ns ds k ∧ ∀ d, k d → ∀ v H', Same H H' → Dr K (hid fr H') v d → Q v H'
def env0E (N : List Str) (a dd : Addr) (ns : List Str) (ds : List D) : Ev := .exc a dd ns ds :: noS (N.length - 1)
section
variable {P : Program} {w : World} {K : PySem.W.Frag} {mg : Str → Option Value} {base : Heap} {x qual : Str} {st : Stmt} {f C : Addr} {fd : FuncData} {N ps : List Str} {k : Nat} {df : DFE}
theorem R.startE {fr : List Addr} {H : Hp} {a dd : Addr} {ns : List Str} {us : List V} {ds : List D} (hf : ∀ a ∈ fr, H a ≠ none) (hd : hid fr H dd = some (.xd (ns.zip us))) (hl : ns.length = us.length) (h : DrA K (hid fr H) us ds) : R K ⟨H, [], fr⟩ fr H (L2.start N [.ref a]) (env0E N a dd ns ds) := by
  have no : ∀ i b, adAt (env0E N a dd ns ds) i ≠ some b := fun i b e => by
    cases i with
    | zero => cases e
    | succ i =>
      have e : adAt (noS (N.length - 1)) i = some b := e
      have := adAt_dats (ds := []) (n := N.length - 1) (i := i)
      rw [show (([] : List D).map Sl.dat ++ noS (N.length - 1)) = noS (N.length - 1) from rfl, e] at this
      cases this
  refine ⟨?_, fun i s e => ?_, fun i j b e => absurd e (no i b), fun i b e => absurd e (no i b), fun _ _ _ e => e, fun i b e => absurd e (no i b), fun _ h => h, hf, (fun b hb => by cases hb), fun _ h => .inl h⟩
  · unfold env0E L2.start noS
    simp
  · cases i with
    | zero => cases e; exact ⟨_, rfl, rfl, us, hd, hl, h⟩
    | succ i => exact sl_dats (K := K) (vs := []) (ds := []) (n := N.length - 1) .nil i s e
theorem fn_e (Fn : Fun K x qual st f fd) (S : FnScope N ps (defScope st)) (hn : ps.length = 1 := by rfl)
    (body : ∀ (X : Cx) (cdv : Value) (A : Around) (out : List Env) (s : Shared) (H : Hp) (E : XK) (p : Addr × Obj) (dd : Addr), X = cxH CX0 P w K mg base N qual (defScope st) f cdv A out s H E p → RoomH k X.A → Pin X p.1 C dd →
      ∃ t : DTS, (∀ F0, DSs X F0 (defBody st) t) ∧ ∀ ns ds kk, df ns ds kk → t (dEnds kk) (env0E N p.1 dd ns ds)) : FnE P w K mg base (k + 1) f fd ps C (spE K df) := by
  refine fnE_of Fn S (fun a dd vs H Q E ⟨_, _, _, _, _, e, _⟩ => by rw [e, hn]; rfl) (fun cdv A out s H vs Q E p dd hot hz hr h => ?_)
  obtain ⟨fr, ns, us, ds, kk, rfl, hf, hd, hl, da, h, hq⟩ := h
  obtain ⟨t, ht, hk⟩ := body _ cdv A out s H E p dd rfl hr ⟨p.2, List.mem_cons_self, hz, let ⟨_, v1, e1, _⟩ := hot; ⟨v1, e1⟩⟩
  exact ⟨_, ht ⟨H, [], fr⟩, env0E N p.1 dd ns ds, fr, R.startE hf hd hl da, _, hk ns ds kk h, ends_d hf hq⟩
end
structure FnTE (P : Program) (w : World) (K : PySem.W.Frag) (mg : Str → Option Value) (base : Heap) (k : Nat) (x : Str) (C : Addr) (df : DFE) : Prop where
  ex : ∃ f fd ps, FnE P w K mg base k f fd ps C (spE K df) ∧ mg x = some (.ref f) ∧ PySem.W.keepIn K (.ref f) = true ∧ Binds K fd ps []
def dCallE (i : Nat) (a dd : Addr) (df : DFE) : DTE := fun env Q => match env[i]? with
  | some (.exc a' dd' ns ds) => (a' = a ∧ dd' = dd) ∧ df ns ds fun d => Q d env
  | _ => False
section
variable {X : Cx} {F : Fm} {a C dd : Addr} {x : Str} {e : Expr} {p pos : Pos} {i k j : Nat} {df : DFE}
/-- f(err) in the suite -/
theorem de_callE (T : FnTE X.prog X.w X.K X.mg X.base k x C df) (hr : RoomH j X.A) (hh : X.A.handled = some (.ref a)) (hp : Pin X a C dd) (hv : PE X e (tVar i)) (hj : k ≤ j := by decide) (hg : Gl X x := by rfl) (hdb : (x == ("__debug__" : Str)) = false := by decide) (he : starEach [e] X.env = (false, eval e X.env) :: starEach [] X.env := by rfl) (hpl : (backTo pos (starEach [] X.env)).any (·.1) = false := by rfl) :
    DE X F (.Call (.Name x p) [e] [] pos) (dCallE i a dd df) := by
  obtain ⟨f, fd, ps, G, hm, hk, hb⟩ := T.ex
  refine ⟨fun pins s σ H Q I ⟨env, os, r0, Q', q, fin⟩ => ?_⟩
  unfold dCallE at q
  cases hs : env[i]? with
  | none => rw [hs] at q; exact q.elim
  | some sl =>
    rw [hs] at q
    cases sl with
    | exc a' dd' ns ds =>
      obtain ⟨⟨rfl, rfl⟩, q⟩ := q
      obtain ⟨e1, vs, hd, hl, da⟩ := exc_at r0 hs
      obtain ⟨oe, pm, hz, fv, hfv⟩ := hp
      refine wpAny_Call_Name_kw (ld_glob I hg hm (PySem.W.callWith_K (h₀ := X.base) I.ok.mod.kin hk (thn ((pa_cons hv pa_nil he).run pos pins s σ H (fun vs H1 => vs = [.ref a'] ∧ H1 = H) I ⟨_, e1, rfl, rfl⟩) fun us s1 ⟨ws, H1, I1, r, ew, eH⟩ => ⟨I1.kIn, ?_⟩) he hpl) hdb)
      subst ew eH
      have sp : spE X.K df a' dd' [.ref a'] H1 Q (fun _ _ _ => False) := ⟨os, ns, vs, ds, _, rfl, r0.here, hd, hl, da, q, fun d q v H' s w => fin _ _ q v os H' (Go.same r0 s) w⟩
      have hul : us.length = ps.length := by rw [← r.length]; exact G.len _ _ _ _ _ _ sp
      have b := hb s1 us I1.kIn (by rw [List.append_nil]; exact hul)
      rw [List.append_nil] at b
      have P1 := I1.pin (a', oe) (List.mem_append_left _ pm)
      have pin : PinOk X.stack H1 s1 (a', oe) := ⟨P1.1, P1.2.1, fun hm => (List.mem_cons.mp (I1.stkSub a' hm)).elim P1.2.2.1 P1.2.2.2.1, P1.2.2.2.2⟩
      refine wpAny_call (codeAny_mono (G.go X.A X.stack s1 H1 ⟨us, []⟩ us [.ref a'] Q (fun _ _ _ => False) (a', oe) dd' ⟨by have := hr.dp; omega, by have := hr.un; omega⟩ ⟨hh, fv, hfv, hz.2.2 fv hfv⟩ hz pin I1.env0 b r sp) fun rr s2 hq => ?_)
      match rr, hq with
      | .error e, hq => exact hq.elim
      | .ok (.ret u), hq => exact I1.after hq
      | .ok .next, hq => exact hq.elim
      | .ok .brk, hq => exact hq.elim
      | .ok .cont, hq => exact hq.elim
    | _ => exact q.elim
end
end DL
/-! the law's own def; repr; the deck -/
namespace DL
open PySem PySem.Spec PyProof.Rows L2 LL
theorem exm_nil {K : PySem.W.Frag} {c : Value} : ∀ p ∈ ([] : List (Addr × Bool)), PySem.W.exmOne K (.ref p.1) c = some p.2 := fun p h => by cases h
theorem exm_cons {K : PySem.W.Frag} {c : Value} {C : Addr} {b : Bool} {l : List (Addr × Bool)} (h : PySem.W.exmOne K (.ref C) c = some b) (t : ∀ p ∈ l, PySem.W.exmOne K (.ref p.1) c = some p.2) : ∀ p ∈ (C, b) :: l, PySem.W.exmOne K (.ref p.1) c = some p.2 := fun p hp => by
  rcases List.mem_cons.mp hp with rfl | hp
  · exact h
  · exact t p hp
theorem roomS {X : Cx} {a : Addr} {pn : List (Addr × Obj)} {k : Nat} (h : Room k X.A) : L2H.RoomH k (X.suite a pn).A := ⟨h.dp, h.un⟩
/-! ### repr -/
def fitR (d : D) : Prop := d.plain = true ∧ d.py.showable = true ∧ d.py.depth ≤ 60 ∧ d.py.shown.length ≤ 1000000
def oRepr : Rv → (Rv → Prop) → Prop := fun a k => a.rd fun d => fitR d ∧ k (.dat (.str d.py.shown))
theorem l_repr {K : PySem.W.Frag} : Lift1 K (fun v => rRepr K [v]) oRepr := fun F os env σ H v ra Q k r ha h q => by
  obtain ⟨d, hd, ⟨f1, f2, f3, f4⟩, h⟩ := ha.rd r h
  have hz : (1000000 : Nat) ≤ sizeLine := by rw [sizeLine_eq]; decide
  exact ⟨v, d.py, rfl, hd.q f1, f2, f3, Nat.le_trans f4 hz, q _ _ os H h (Go.refl r) (Dr.str _) trivial⟩
mutual
theorem sm_plain {b : Nat} : ∀ {d : D}, d.sm b = true → d.plain = true
  | .non, _ => rfl
  | .bl _, _ => rfl
  | .int _, _ => rfl
  | .str _, _ => rfl
  | .lst ds, h => sms_plain (ds := ds) (Bool.and_eq_true_iff.mp h).2
  | .tup ds, h => sms_plain (ds := ds) (Bool.and_eq_true_iff.mp h).2
  | .dct _ ds, h => sms_plain (ds := ds) h
  | .obj _ _ _, h => by cases h
theorem sms_plain {b : Nat} : ∀ {ds : List D}, D.sms b ds = true → D.plains ds = true
  | [], _ => rfl
  | d :: ds, h => by
    have z := Bool.and_eq_true_iff.mp h
    exact Bool.and_eq_true_iff.mpr ⟨sm_plain z.1, sms_plain z.2⟩
end
theorem Fit.r {b n m : Nat} {d : D} (h : Fit b n m d) (hn : n ≤ 1000000 := by decide) (hm : m ≤ 60 := by decide) : fitR d := ⟨sm_plain h.sm, h.sh, Nat.le_trans h.dp hm, Nat.le_trans h.le hn⟩
/-! ### texts beside one another -/
def oStrs (neg : Bool) : Rv → Rv → (Rv → Prop) → Prop
  | .dat (.str x), .dat (.str y), k => k (.dat (.bl (if neg then !decide (x = y) else decide (x = y))))
  | _, _, _ => False
theorem l_strE {K : PySem.W.Frag} : Lift2 K rEq (oStrs false) := fun F os env σ H v w ra rb Q k r ha hb h q => by
  match ra, rb, h, ha, hb with
  | .dat (.str x), .dat (.str y), h, ha, hb =>
    cases hd_str ha; cases hd_str hb
    have e : decide (V.str x = V.str y) = decide (x = y) := by rw [Bool.eq_iff_iff]; simp
    exact ⟨rfl, by rw [e]; exact q _ _ os H h (Go.refl r) (Dr.bl _) trivial⟩
theorem l_strN {K : PySem.W.Frag} : Lift2 K rNe (oStrs true) := fun F os env σ H v w ra rb Q k r ha hb h q => by
  match ra, rb, h, ha, hb with
  | .dat (.str x), .dat (.str y), h, ha, hb =>
    cases hd_str ha; cases hd_str hb
    have e : decide (V.str x = V.str y) = decide (x = y) := by rw [Bool.eq_iff_iff]; simp
    exact ⟨rfl, by rw [e]; exact q _ _ os H h (Go.refl r) (Dr.bl _) trivial⟩
section
variable {X : Cx} {F : Fm} {e a b : Expr} {p pos : Pos} {ta tb : DTV}
theorem drepr (gd : X.A.guards = some []) (hu : X.A.units + 64 < cLine) (sm : ∃ mm, X.base.Ns sysModules mm) (hm : X.mg "repr" = none) (ha : DV X F a ta) (hg : Gl X "repr" := by rfl) (he : starEach [a] X.env = (false, eval a X.env) :: starEach [] X.env := by rfl) (hpl : (backTo pos (starEach [] X.env)).any (·.1) = false := by rfl) : DV X F (.Call (.Name "repr" p) [a] [] pos) (dUn oRepr ta) :=
  dv_b1 (call_repr gd hu sm) l_repr hm ha (by decide +kernel) hg (by decide) (by decide) he hpl
theorem deqS (ha : DV X F a ta) (hb : DV X F b tb) : DV X F (.Compare a [.Eq] [b] pos) (dOp (oStrs false) ta tb) := dv_cmp op_eq l_strE ha hb (nomark _)
theorem dneS (ha : DV X F a ta) (hb : DV X F b tb) : DV X F (.Compare a [.NotEq] [b] pos) (dOp (oStrs true) ta tb) := dv_cmp op_ne l_strN ha hb (nomark _)
theorem teqS (ha : DV X F a ta) (hb : DV X F b tb) : DT X F (.Compare a [.Eq] [b] pos) (dTst (dOp (oStrs false) ta tb)) := dt_cmp op_eq l_strE ha hb (nomark _)
theorem tneS (ha : DV X F a ta) (hb : DV X F b tb) : DT X F (.Compare a [.NotEq] [b] pos) (dTst (dOp (oStrs true) ta tb)) := dt_cmp op_ne l_strN ha hb (nomark _)
end
/-! ### the deck, made of the script -/
def spDeckD (K : PySem.W.Frag) : Sp := fun vs H Q _ => ∃ (a : Addr) (ns : List Int), vs = [.ref a] ∧ SqL K H a (ns.map V.int) ∧ ns.length ≤ 63 ∧ ∀ H' p, Same H H' → H p = none → BagAt H' p → Q (.ref p) H'
def dDeck (i j : Nat) : DTS := fun ee env => (match env[j]? with | some (.dat (.lst ds)) => ∃ ns : List Int, ds = ns.map D.int ∧ ns.length ≤ 63 | _ => False) ∧ ∀ b, ee.nx (env.set i (.bag b))
theorem R.move {K : PySem.W.Frag} {F : Fm} {os : List Addr} {H H' : Hp} {σ : L2.St} {env : Ev} (r : R K F os H σ env) (s : Same H H') {p : Addr} (n : H p = none) (h : H' p ≠ none) : R K F (p :: os) H' σ env := by
  have hs : Same (hid os H) (hid (p :: os) H') := fun c o q => by
    obtain ⟨q1, q2⟩ := hid_of q
    refine hid_at (s _ _ q1) fun m => ?_
    rcases List.mem_cons.mp m with m | m
    · rw [m, n] at q1; cases q1
    · exact q2 m
  refine ⟨r.len, fun i t e => ?_, r.nd, fun i a e => List.mem_cons_of_mem _ (r.mem i a e), fun c u m e => s _ _ (r.keep c u m e), r.new, fun a h => List.mem_cons_of_mem _ (r.sub a h), fun a m => ?_, r.hB, fun a m => ?_⟩
  · obtain ⟨x, e1, q⟩ := r.sl i t e
    refine ⟨x, e1, ?_⟩
    cases t with
    | no => exact q
    | dat d => obtain ⟨v, e2, q⟩ := q; exact ⟨v, e2, q.up hs⟩
    | exc a dd ns ds => obtain ⟨e2, vs, e3, l3, q⟩ := q; exact ⟨e2, vs, hs _ _ e3, l3, q.up hs⟩
    | own a ds => obtain ⟨e2, vs, e3, q⟩ := q; exact ⟨e2, vs, s _ _ e3, q.up hs⟩
    | bag a => obtain ⟨e2, w, e3, q⟩ := q; exact ⟨e2, w, s _ _ e3, q⟩
    | any => trivial
  · rcases List.mem_cons.mp m with m | m
    · rw [m]; exact h
    · exact fun z => r.here a m (s.free z)
  · rcases List.mem_cons.mp m with m | m
    · rw [m]; exact .inr (r.new0 n)
    · exact r.osn a m
section
variable {X : Cx} {F : Fm} {e : Expr} {p pos pos2 pos' : Pos} {x y : Str} {k l i j : Nat} {f : Addr} {fd : FuncData} {ps : List Str}
theorem ds_deck (T : FnT X.prog X.w X.K X.mg X.base CX0 k x f fd ps (spDeckD X.K)) (hr : Room l X.A) (hN : X.N.Nodup) (hv : PE X e (tVar j)) (hj : k ≤ l := by decide) (hi : X.N[i]? = some y := by rfl) (hx : Loc X.env.scope y := by first | exact .inl rfl | exact .inr rfl) (hs : swapsWith (.Call (.Name x p) [e] [] pos2) (some (.Name y pos')) pos.line X.env = pure false := by rfl) (hf : X.fn y = true ∨ X.env.scope.names.lookup y = some .local := by first | exact .inl rfl | exact .inr rfl | assumption)
    (hg : Gl X x := by rfl) (hdb : (x == ("__debug__" : Str)) = false := by decide) (he : starEach [e] X.env = (false, eval e X.env) :: starEach [] X.env := by rfl) (hpl : (backTo pos2 (starEach [] X.env)).any (·.1) = false := by rfl) :
    DS X F (.Assign [.Name y pos'] (.Call (.Name x p) [e] [] pos2) pos) (dDeck i j) :=
  impS (ps_set hN hi hx (pe_call T.ok (hr.mono hj) hg T.at_ T.kp T.bd .nil pass0 (pa_cons hv pa_nil he) hdb he hpl) hs hf) fun D σ H ⟨env, os, r, D', ⟨q1, q2⟩, w⟩ => by
    cases hs : env[j]? with
    | none => rw [hs] at q1; exact q1.elim
    | some sl =>
      rw [hs] at q1
      match sl, q1, hs with
      | .dat (.lst _), ⟨ns, rfl, l63⟩, hs =>
        obtain ⟨x, e1, v, rfl, dv⟩ := r.sl j _ hs
        cases dv with
        | lst h1 h2 =>
          obtain rfl := h2.ints (intsOf_map ns)
          refine ⟨_, e1, _, ns, rfl, hid_same.seq h1, l63, fun H' p s np bg => w.nx _ (q2 p) (p :: os) _ H' ?_⟩
          obtain ⟨o, ho, hb⟩ := bg
          exact (r.move s np (by rw [ho]; simp)).set (s := .bag p) ⟨rfl, o, ho, hb⟩ fun a z => by
            cases z
            exact ⟨List.mem_cons_self, fun i z => r.off np (r.mem i p z), .inr (r.new0 np)⟩
end
/-! ### error classes -/
abbrev veB : List Value := [.type "ValueError", .type "Exception", .type "BaseException", .type "object"]
abbrev leB : List Value := [.type "LookupError", .type "Exception", .type "BaseException", .type "object"]
theorem er2_mk {K : PySem.W.Frag} {h : Heap} {mg : Str → Option Value} {x n n2 : Str} {C fI : Addr} {B newId initId : String} {bmB : List Value} {qual : Str} {st : Stmt} {oc : Value} {od an : Option Addr} {sl : Array (Option Value)} {kV dc pm cd ct : Value}
    (X : K.In h) (G : h.Ns mainGlobals mg) (SF : StoreFacts B bmB "object.__setattr__" "object") (FB : ExcBaseFacts B newId initId bmB) (e : ErC K C)
    (Sc : FnScope ["self", n, n2] ["self", n, n2] (defScope st)) (l1 : (defScope st).names.lookup ("self" : Str) = some .local) (l2 : (defScope st).names.lookup n = some .local) (l3 : (defScope st).names.lookup n2 = some .local) (nd : (n == ("__debug__" : Str)) = false) (nd2 : (n2 == ("__debug__" : Str)) = false)
    {q1 q2 q3 q4 q5 q6 q7 q8 : Pos} (hb : defBody st = [.Assign [.Attribute (.Name "self" q1) n q2] (.Name n q3) q4, .Assign [.Attribute (.Name "self" q5) n2 q6] (.Name n2 q7) q8])
    (bd : ∀ (kV doc pm : Value) (an : Option Addr) (cdv ct : Value) (us : List Value), us.length = (["self", n, n2] : List Str).length → bindArgs (PySem.W.fnOf "__init__" qual (defArgs st) (defBody st) (defScope st) .none kV doc pm an cdv ct) ⟨us, []⟩ = pure ((["self", n, n2] : List Str).zip us))
    (aC : PySem.W.nsIn K mainGlobals x = some (some (.ref C))) (t : extB K C bmB newId = true) (no : PySem.W.findIn K (.ref C) n = some none) (no2 : PySem.W.findIn K (.ref C) n2 = some none) (iC : PySem.W.findIn K (.ref C) "__init__" = some (some (.ref fI))) (tI : PySem.W.typeIn K (.ref fI) = some (.type "function"))
    (lI : K.lookup fI = some ⟨oc, od, .func (PySem.W.fnOf "__init__" qual (defArgs st) (defBody st) (defScope st) .none kV dc pm an cd ct), sl⟩) (cI : PySem.W.codeIn K cd qual = true) (kI : PySem.W.keepIn K (.ref fI) = true) : Er2 K mg x n n2 C := by
  have T := ext_of t e
  have F := fun_mk lI cI kI
  exact ⟨PySem.W.mg_of X G aC, no, no2, T.kp, fun X' lim room hq => made2 SF FB T no no2 iC tI F Sc (F.binds bd) l1 l2 l3 nd nd2 hb X' lim room hq⟩
def inC (c : Stmt) (i : Nat) : Stmt := match c with
  | .ClassDef (body := b) .. => b.getD i (.Pass ⟨0, 0, 0, 0⟩)
  | _ => .Pass ⟨0, 0, 0, 0⟩
/-! ### the law's def -/
def spLawD (K : PySem.W.Frag) : Sp := fun vs H Q _ => ∃ (a : Addr) (ns : List Int), vs = [.ref a] ∧ SqL K H a (ns.map V.int) ∧ ns.length ≤ 63 ∧ ∀ H', Q (.bl true) H'
def lEnds : DEnds := ⟨fun _ => False, fun rv _ => rv.ret fun d => d = .bl true, fun _ => False, fun _ => False⟩
section
variable {P : Program} {w : World} {K : PySem.W.Frag} {mg : Str → Option Value} {base : Heap} {x qual : Str} {st : Stmt} {f : Addr} {fd : FuncData} {N : List Str} {y : Str} {k : Nat}
theorem fn_law (Fn : Fun K x qual st f fd) (S : FnScope N [y] (defScope st))
    (body : ∀ (X : Cx) (cdv : Value) (A : Around) (out : List Env) (s : Shared) (H : Hp) (E : XK), X = (cxOf CX0 P w K mg base N qual (defScope st) f cdv A out s H E).nox → X.A.guards = some [] → Room k X.A →
      ∃ t : DTS, (∀ F0, DSs X F0 (defBody st) t) ∧ ∀ ns : List Int, ns.length ≤ 63 → t lEnds (env0 N [.lst (ns.map D.int)])) : GOk P w K mg base CX0 (k + 1) f fd [y] (spLawD K) := by
  refine gok_of Fn S (fun vs H Q E h => ?_) (fun cdv A out s H vs Q E gd hr h => ?_)
  · obtain ⟨a, ns, rfl, _⟩ := h
    rfl
  obtain ⟨a, ns, rfl, hS, l63, hQ⟩ := h
  obtain ⟨t, ht, hk⟩ := body _ cdv A out s H E rfl gd hr
  have he : hid [] H = H := by funext c; unfold hid; rw [if_neg (fun z => nomatch z)]
  have hd : DrA K (hid [] H) [V.ref a] [.lst (ns.map D.int)] := .cons (.lst (by rw [he]; exact hS) (DrA.ofInts ns)) .nil
  refine ⟨_, ht ⟨H, [], []⟩, env0 N [.lst (ns.map D.int)], [], R.start (fun a h => by cases h) hd, lEnds, hk ns l63, ⟨fun e q => q.elim, fun rv e q v os σ H' r hv => ?_, fun e q => q.elim, fun e q => q.elim⟩⟩
  obtain ⟨d, rfl, dr⟩ := hv.ret (F := ⟨H, [], []⟩) (fun a h => by cases h) (fun _ _ _ _ z => nomatch z) r q
  cases dr
  exact hQ H'
end
theorem env0E_1 {a : Str} {N : List Str} {x dd : Addr} {ns : List Str} {ds : List D} : env0E (a :: N) x dd ns ds = Sl.exc x dd ns ds :: noS N.length := by unfold env0E; simp
theorem os_rp {b : Bool} {x y : Str} {k : Rv → Prop} : oStrs b (.dat (.str x)) (.dat (.str y)) k = k (.dat (.bl (if b then !decide (x = y) else decide (x = y)))) := rfl
theorem ad_exc {a dd : Addr} {ns : List Str} {ds : List D} : Sl.ad (.exc a dd ns ds) = none := rfl
end DL
local macro_rules
  | `(tactic| simp_wf) => `(tactic| simp only [DL.dXf, DL.dIsX, DL.dCallE, DL.dFld, DL.dProp, DL.dMeth, DL.dMethT, DL.dCallT, DL.dRaise1, DL.dTry, DL.dDeck, DL.oRepr, DL.os_rp, DL.ad_exc, DL.env0E_1, DL.lEnds, DL.isO, DL.noF, Nat.zero_le, Nat.reduceAdd, Nat.reduceLeDiff, Nat.le_refl, DL.oRev, DL.oc_dn, DL.oc_nn, DL.oc_on, DL.oc_dd, DL.oc_nd, DL.dCs, DL.dNew, DL.noAd_c, DL.noAd_n, DL.adAt_0, DL.adAt_s, DL.ad_no, DL.ad_dat, DL.onl_n, DL.onl_o, DL.onl_d, DL.dRaise2, Bool.not_not, Bool.true_and, Bool.and_true, Bool.false_and, Bool.and_false, Bool.true_or, Bool.or_true, Bool.false_or, Bool.or_false, DL.dRet, DL.dNext, DL.dDrop, DL.dSet, DL.dOwn, DL.dAsg, DL.dPar2, DL.dPar3, DL.dSetLc, DL.dVar, DL.dC, DL.dDat, DL.dRel, DL.dNil, DL.dCons, DL.dOp, DL.dUn, DL.dTst, DL.dNot, DL.dAnd, DL.dOr, DL.dAndV, DL.dOrV, DL.dNotV, DL.dIfE, DL.dTup, DL.dLst, DL.dCall, DL.dCallB, DL.dChain, DL.dYes, DL.dApp, DL.dPopAt, DL.dPop, DL.dExt, DL.dIndex, DL.dTru, DL.doNone, DL.dSl, DL.dLstRg, DL.diEn, DL.diZip, DL.diSeq, DL.diRg2, DL.oLen, DL.oList, DL.oTuple, DL.isBag, DL.dEnds, DL.bEnds, DL.ownAt, DL.r_rel_dat, DL.r_rel_new, DL.r_rd_dat, DL.r_rd_new, DL.r_ret_dat, DL.r_ret_new, DL.r_rd_own, DL.r_ret_own, DL.r_seq_dl, DL.r_seq_dt, DL.r_seq_n, DL.r_seq_o, DL.r_items_dl, DL.r_items_dt, DL.r_items_n, DL.r_lis_n, DL.r_lis_o, DL.r_bool, DL.st_d, DL.st_n, DL.st_o, DL.sto_d, DL.sto_n, DL.gt_t, DL.gt_l, DL.gc_c, DL.gc_n, DL.gn_n, DL.oa_ii, DL.oa_ss, DL.oa_tt, DL.oa_nn, DL.oa_on, DL.oi_ii, DL.oj_ii, DL.on_i, DL.ob_i, DL.ot_i, DL.ot_b, DL.os_i, DL.oin_d, DL.ois_d, DL.oix_i, DL.eq_v, DL.ne_v, DL.ds_i, DL.rg1_i, DL.eqOk_int, DL.eqOk_l0, DL.eqv_int, DL.eqv_str, DL.eqv_l0, DL.wip_0, DL.wip_c, List.map_cons, List.map_nil, DL.env0_1, DL.env0_2, DL.env0_3, DL.envB_0, DL.envB_1, DL.envB_2, DL.envB_3, DL.noS_0, DL.noS_s, List.length_cons, List.length_nil, Nat.zero_add, List.getElem?_cons_zero, List.getElem?_cons_succ, List.set_cons_zero, List.set_cons_succ, DL.atI_0, DL.atI_1, DL.atI_2, true_and, and_true, if_true, if_false, Bool.false_eq_true, ite_true, ite_false, Bool.not_true, Bool.not_false, Bool.not_eq_true', decide_eq_true_eq, decide_eq_false_iff_not, ne_eq, not_false_eq_true, reduceCtorEq])
/-! t * k of a tuple, k = 1 too (the same object). -/
namespace LL
open PySem PySem.Spec PyProof.Rows L2
theorem tuple_mul1 (l : Addr) (items : Array Value) (n : Nat) (dd : Option Addr) (sl : Array (Option Value)) (u : Tok) :
    Meets (Builtin.«tuple.__mul__» ⟨[.ref l, .int 1 u], []⟩) (fun _ R s => s.heap.get? l = some { cls := .type "tuple", dict := dd, data := .seq items n, slots := sl } ∧ R (.ok (.ret (Value.ref l))) s) :=
  .of_wp fun prog w A R s h => by
    obtain ⟨hp, g, d, tk, os⟩ := s
    obtain ⟨hl, h⟩ := h
    have f1 := AutoSeq1.idx_int
    wp_walk using wpAny_loadPart' hl
    exact ⟨_, rfl, h⟩
def rRep1 (K : PySem.W.Frag) : R2 := fun x y H Q => ∃ l xs, x = .ref l ∧ y = .int 1 ∧ SqT K H l xs ∧ Q (.ref l) H
variable {X : Cx}
theorem op_rep1 : OpR X (binaryOp .Mult) (rRep1 X.K) := by
  intro pins s σ H x y v u Q I rx ry h
  obtain ⟨l, xs, rfl, rfl, hT, q⟩ := h
  cases rx
  obtain ⟨t, rfl⟩ := ry
  obtain ⟨its, r, ⟨⟨cls, dd, data, sl⟩, ho, hc, n, hd⟩, hs⟩ := I.tuple hT
  simp only at hc hd
  subst hc hd
  refine wpAny_binaryOp_repeat_ref (T := "tuple") (U := "int") (by decide) ⟨_, ho, rfl⟩ (fun s' => typeIs_int s' 1 t) noFill_tuple_mul F.fills_int_mul F.slot_int_rmul repeat_tuple F.slot_int_index.lookup
    (call_meets F.slot_int_rmul (typeIs_int s 1 t) F.entry_int_rmul (F.args_int_rmul_2 _ _) (int_rmul_tuple 1 t l its.toArray n dd sl)
      ⟨ho, rfl, ⟨_, ho, rfl⟩, call_meets F.slot_tuple_mul ⟨_, ho, rfl⟩ F.entry_tuple_mul (F.args_tuple_mul_2 _ _) (tuple_mul1 l its.toArray n dd sl t) ⟨ho, ?_⟩⟩)
  exact ⟨.ref l, H, I, rfl, q⟩
def rRepW (K : PySem.W.Frag) : R2 := fun x y H Q => rRep1 K x y H Q ∨ rRepT K x y H Q
theorem op_repW : OpR X (binaryOp .Mult) (rRepW X.K) := fun pins s σ H x y v u Q I rx ry h => h.elim (op_rep1 pins s σ H x y v u Q I rx ry) (op_repT pins s σ H x y v u Q I rx ry)
end LL
namespace DL
open PySem PySem.Spec PyProof.Rows L2 LL
def oRepW : Rv → Rv → (Rv → Prop) → Prop
  | .dat (.tup ds), .dat (.int k), q => (ds ≠ [] ∧ 1 ≤ k ∧ k ≤ 1000 ∧ ds.length ≤ 1000) ∧ q (.dat (.tup (List.replicate k.toNat ds).flatten))
  | _, _, _ => False
theorem l_repW {K : PySem.W.Frag} : Lift2 K (rRepW K) oRepW := fun F os env σ H v w ra rb Q k r ha hb h q => by
  match ra, rb, h, ha, hb with
  | .dat (.tup ds), .dat (.int i), ⟨⟨h1, h2, h3, h4⟩, h⟩, ha, hb =>
    cases hd_int hb
    obtain ⟨a, vs, rfl, s1, da⟩ := hd_tup ha
    by_cases c : i = 1
    · subst c
      refine .inl ⟨a, vs, rfl, rfl, Same.seqT hid_same s1, ?_⟩
      have e : (List.replicate (1 : Int).toNat ds).flatten = ds := by simp
      rw [e] at h
      exact q _ _ os _ h (Go.refl r) (Dr.tup s1 da) trivial
    · refine .inr ⟨a, i, vs, rfl, rfl, Same.seqT hid_same s1, fun z => h1 ?_, by omega, h3, by rw [da.length]; exact h4, fun p np => ?_⟩
      · subst z; cases da; rfl
      · exact q _ _ os _ h (Go.same r (same_new np)) (Dr.tup (.inl (.inl (hid_at upd_same fun m => r.off np m))) ((DrA.rep da _).up (hid_up (same_new np)))) trivial
variable {X : Cx} {F : Fm} {a b : Expr} {pos : Pos}
theorem drepW {ta tb : DTV} (ha : DV X F a ta) (hb : DV X F b tb) : DV X F (.BinOp a .Mult b pos) (dOp oRepW ta tb) := dv_op op_repW l_repW ha hb
end DL
/-! x == y by a class's own __eq__; a method that may raise, called where it does not. -/
namespace LL
open PySem PySem.Spec PyProof.Rows L2
/-- two instances of one class -/
def rEqO (C : Addr) (sp : Sp) : R2 := fun x y H Q => ∃ a b dx dy fs gs, x = .ref a ∧ y = .ref b ∧ H a = some (.ins C dx fs) ∧ H b = some (.ins C dy gs) ∧ sp [.ref a, .ref b] H (fun v H' => (∃ t, v = .bl t) ∧ Q v H') fun _ _ _ => False
theorem op_eqO {X : Cx} {n : Nat} {C f : Addr} {fd : FuncData} {ps : List Str} {sp : Sp} (F : FnOk X.prog X.w X.K X.mg X.base CX0 n f fd ps sp)
    (hs : PySem.W.findIn X.K (.ref C) "__eq__" = some (some (.ref f))) (hf : PySem.W.isFn X.K (.ref f) = true) (hb : Binds X.K fd ps []) (hr : Room n X.A) : OpR X (compareOp .Eq) (rEqO C sp) := by
  intro pins s σ H x y v u Q I rx ry h
  obtain ⟨a, b, dx, dy, fs, gs, rfl, rfl, ha, hb', hsp⟩ := h
  cases rx
  cases ry
  obtain ⟨mA, J, _⟩ := ins_get I.hok ha
  obtain ⟨mB, J', _⟩ := ins_get I.hok hb'
  obtain ⟨od, J, _⟩ := J.look
  obtain ⟨od', J', _⟩ := J'.look
  obtain ⟨m, hF⟩ := I.fr
  show wpAny (model X.prog X.w) X.A (richCompare .Eq (.ref a) (.ref b)) (EP X pins σ Q) X.xe s
  refine PySem.W.cmp_K (op := .Eq) (tb := .ref C) hr.units0 hF I.ok.mod.kin J J'.type (by simp [PySem.W.notFirst]) hs hf ?_
  have hl := F.len _ _ _ _ hsp
  have r2 : Vals [V.ref a, V.ref b] [Value.ref a, Value.ref b] := .cons rfl (.cons rfl .nil)
  refine wpAny_call (codeAny_mono (F.run X.A X.stack s H ⟨[.ref a, .ref b], []⟩ [.ref a, .ref b] [.ref a, .ref b] _ _ hr I.env0 (by
    have := hb s [.ref a, .ref b] I.kIn (by simpa using hl)
    simpa using this) r2 hsp) fun r s' hq => ?_)
  cases r with
  | error e => exact pass0 pins σ H s e s' I hq
  | ok fl =>
    cases fl with
    | ret w =>
      obtain ⟨z, H', I', rz, ⟨t, ez⟩, q⟩ := I.after hq
      subst ez
      cases rz
      exact ⟨.bl t, H', I', rfl, q⟩
    | next => exact False.elim hq
    | brk => exact False.elim hq
    | cont => exact False.elim hq
end LL
namespace DL
open PySem PySem.Spec PyProof.Rows L2 LL
def oOwn (C : Addr) (df : DF) : Rv → Rv → (Rv → Prop) → Prop
  | .dat (.obj C1 ns ds), .dat (.obj C2 ns2 ds2), q => (C1 = C ∧ C2 = C) ∧ df [.obj C1 ns ds, .obj C2 ns2 ds2] (fun d => ∃ t, d = .bl t ∧ q (.dat (.bl t))) fun _ => False
  | _, _, _ => False
theorem l_own {K : PySem.W.Frag} {C : Addr} {df : DF} : Lift2 K (rEqO C (spD K 2 df)) (oOwn C df) := fun F os env σ H v w ra rb Q k r ha hb h q => by
  match ra, rb, h, ha, hb with
  | .dat (.obj C1 ns ds), .dat (.obj C2 ns2 ds2), ⟨⟨e1, e2⟩, hh⟩, ha, hb =>
    subst e1
    subst e2
    have ha : Dr K (hid os H) v (.obj _ ns ds) := ha
    have hb : Dr K (hid os H) w (.obj _ ns2 ds2) := hb
    obtain ⟨a, dx, n1, vs, d1, e1, e3, h1, h2, h3⟩ := ha.ins (show isO _ (.obj _ ns ds) from rfl)
    obtain ⟨b, dy, n2, us, d2, e4, e5, g1, g2, g3⟩ := hb.ins (show isO _ (.obj _ ns2 ds2) from rfl)
    subst e1
    subst e4
    refine ⟨a, b, dx, dy, _, _, rfl, rfl, (hid_of h1).1, (hid_of g1).1, [_, _], os, rfl, r.here, .cons ha (.cons hb .nil), _, _, hh, ?_, fun _ z => z.elim⟩
    rintro d ⟨t, rfl, z⟩ v' H' s dv
    cases dv
    exact ⟨⟨t, rfl⟩, q _ _ os H' z (Go.same r s) (Dr.bl _) trivial⟩
section
variable {X : Cx} {F : Fm} {a b : Expr} {pos : Pos} {ta tb : DTV} {C : Addr} {k j : Nat} {df : DF}
/-- the class's own __eq__ -/
theorem deqO (T : MtT X.prog X.w X.K X.mg X.base CX0 k C "__eq__" 1 df) (hr : Room j X.A) (ha : DV X F a ta) (hb : DV X F b tb) (hj : k ≤ j := by decide) : DV X F (.Compare a [.Eq] [b] pos) (dOp (oOwn C df) ta tb) := by
  obtain ⟨f, fd, ps, hm, G, bd⟩ := T.ex
  exact dv_cmp (op_eqO G hm.at_ hm.fn bd (hr.mono hj)) l_own ha hb (nomark _)
theorem teqO (T : MtT X.prog X.w X.K X.mg X.base CX0 k C "__eq__" 1 df) (hr : Room j X.A) (ha : DV X F a ta) (hb : DV X F b tb) (hj : k ≤ j := by decide) : DT X F (.Compare a [.Eq] [b] pos) (dTst (dOp (oOwn C df) ta tb)) := by
  obtain ⟨f, fd, ps, hm, G, bd⟩ := T.ex
  exact dt_cmp (op_eqO G hm.at_ hm.fn bd (hr.mono hj)) l_own ha hb (nomark _)
variable {o e : Expr} {es : List Expr} {m : Str} {q : Nat} {t : DTE} {ta' : DTA} {apos : Pos}
theorem de_methZ {pl : Sem Bool} (c : Cls X.K C) (T : MtT X.prog X.w X.K X.mg X.base (L2N.CX X.prog X.w) k C m q df) (hr : Room j X.A) (ho : DE X F o t) (ha : DA X F (e :: es) ta') (hj : k ≤ j := by decide)
    (hst : starEach (e :: es) X.env = (false, eval e X.env) :: starEach es X.env := by rfl) (hpl : (backTo pos (starEach es X.env)).any (·.1) = false := by rfl)
    (ht : eval (.Call (.Attribute o m apos) (e :: es) [] pos) X.env = (do let ov ← eval o X.env; standAt apos.atName; let (f, first) ← holding [ov] (getMethod ov m pl); callWith pos f first (backTo pos (starEach (e :: es) X.env)) (backToKw pos (keywordEach [] X.env))) := by rfl) :
    DE X F (.Call (.Attribute o m apos) (e :: es) [] pos) (dMeth C m q df (fun _ => False) t ta') := by
  obtain ⟨f, fd, ps, hm, G, bd⟩ := T.ex
  have pN : Passes (L2N.CX X.prog X.w) X fun _ _ _ => False := fun _ _ _ _ _ _ _ h => by
    obtain ⟨_, _, _, _, _, _, _, _, _, _, _, _, z⟩ := h
    exact z.elim
  exact imp (pe_meth (E := fun _ _ _ => False) (pl := pl) ho c hm G (hr.mono hj) bd .nil pN ha hst hpl ht) fun σ H Q h => meth_run (fun _ z => z.elim) h
end
/-! isinstance(x, C), x an object of the class or no object -/
def dIsC (C : Addr) (t : DTE) : DTE := fun env Q => t env fun d e1 => match d with
  | .obj C' _ _ => C' = C ∧ Q (.bl true) e1
  | d => (∃ n, tyD d = some n) ∧ Q (.bl false) e1
structure IsC (K : PySem.W.Frag) (C : Addr) : Prop where
  ins : C8.InsC K C
  no : ∀ d n, tyD d = some n → PySem.W.kitOne K (.type n) (.ref C) = some false
section
variable {X : Cx} {F : Fm} {e ce : Expr} {p pos : Pos} {t : DTE} {C : Addr}
theorem de_isC (c : IsC X.K C) (mi : X.mg "isinstance" = none) (h : DE X F e t) (hc : PE X ce (tC (.ref C))) (hg : Gl X "isinstance" := by rfl)
    (he : starEach [e, ce] X.env = (false, eval e X.env) :: starEach [ce] X.env := by rfl) (he2 : starEach [ce] X.env = (false, eval ce X.env) :: starEach [] X.env := by rfl) (hpl : (backTo pos (starEach [ce] X.env)).any (·.1) = false := by rfl) :
    DE X F (.Call (.Name "isinstance" p) [e, ce] [] pos) (dIsC C t) :=
  imp (pe_callB (pos := pos) (p := p) call_isi hg mi (by decide +kernel) (pa_cons h (pa_cons hc pa_nil he2) he) (by decide) (by decide) he hpl) fun σ H Q ⟨env, os, r, Q', z, fin⟩ => ⟨env, os, r, _, z, fun d e1 q v os1 H1 g1 hd => by
    cases d with
    | obj C' ns ds =>
      obtain ⟨rfl, q⟩ := q
      obtain ⟨a, dx, n1, vs, d1, rfl, e3, h1, h2, h3⟩ := hd.ins (show isO _ (.obj _ ns ds) from rfl)
      exact ⟨_, _, .ref C', .ref C', true, rfl, .own C', .base (TyOf.ins (hid_of h1).1 c.ins.cl c.ins.ha c.ins.hn c.ins.htk c.ins.hm), c.ins.me, fin _ _ q _ os1 H1 g1 (Dr.bl true)⟩
    | _ =>
      obtain ⟨⟨n, hn⟩, q⟩ := q
      exact ⟨_, _, _, .ref C, false, rfl, .own C, (hd.up hid_same).ty hn, c.no _ _ hn, fin _ _ q _ os1 H1 g1 (Dr.bl false)⟩⟩
end
end DL
namespace DL
open PySem PySem.Spec PyProof.Rows L2 LL
theorem isc_mk {K : PySem.W.Frag} {C : Addr} (h : C8.InsC K C) (h1 : PySem.W.kitOne K (.type "NoneType") (.ref C) = some false) (h2 : PySem.W.kitOne K (.type "bool") (.ref C) = some false) (h3 : PySem.W.kitOne K (.type "int") (.ref C) = some false) (h4 : PySem.W.kitOne K (.type "str") (.ref C) = some false) (h5 : PySem.W.kitOne K (.type "list") (.ref C) = some false) (h6 : PySem.W.kitOne K (.type "tuple") (.ref C) = some false) (h7 : PySem.W.kitOne K (.type "dict") (.ref C) = some false) : IsC K C := ⟨h, fun d n z => by
  cases d <;> first | (cases z; assumption) | cases z⟩
end DL
/-! methods without arguments, by keywords; stars; sorted of pairs, of sets; max -/
namespace DL
open PySem PySem.Spec PyProof.Rows L2 LL
section
variable {X : Cx} {F : Fm} {C f : Addr} {m : Str} {o e a b : Expr} {es : List Expr} {pos apos kpos p p2 pos2 : Pos} {t : DTE} {ta : DTA} {k j : Nat} {df : DF} {kws : List Keyword}
/-- o.m() -/
theorem de_meth0 {pl : Sem Bool} (c : Cls X.K C) (T : MtT X.prog X.w X.K X.mg X.base CX0 k C m 0 df) (hr : Room j X.A) (ho : DE X F o t) (hj : k ≤ j := by decide)
    (ht : eval (.Call (.Attribute o m apos) [] [] pos) X.env = (do let ov ← eval o X.env; standAt apos.atName; let (f, first) ← holding [ov] (getMethod ov m pl); callWith pos f first (backTo pos (starEach [] X.env)) (backToKw pos (keywordEach [] X.env))) := by rfl) :
    DE X F (.Call (.Attribute o m apos) [] [] pos) (dMeth C m 0 df (fun _ => False) t dNil) := by
  obtain ⟨f, fd, ps, hm, G, bd⟩ := T.ex
  refine imp (pe_meth0 (E := fun _ _ _ => False) (pl := pl) ho c hm G (hr.mono hj) bd .nil pass0 ht) fun σ H Q ⟨env, os, r, Q', z, fin⟩ => ⟨env, os, r, _, z, fun d e1 ⟨⟨io, nf⟩, q⟩ v os1 H1 g1 hd => ?_⟩
  obtain ⟨a, dx, ns, vs, ds, rfl, rfl, h1, h2, h3⟩ := hd.ins io
  obtain ⟨_, q⟩ := q
  refine ⟨a, dx, _, rfl, (hid_of h1).1, lookup_no nf, ?_⟩
  show spD X.K 1 df (V.ref a :: ([] ++ [])) H1 Q _
  exact ⟨[.obj C ns ds], os1, rfl, g1.r.here, .cons hd .nil, _, _, q, fun d q v H' s w => fin _ _ q v os1 H' (g1.trans r (Go.same g1.r s)) w, fun er z => z.elim⟩
/-! ### keywords -/
abbrev DK (X : Cx) (F : Fm) (kws : List Keyword) (t : DTA) : Prop := PK X kws (upA X.K F t)
theorem impK {t t' : TA} (h : PK X kws t) (w : ∀ σ H Q, t' σ H Q → t σ H Q) : PK X kws t' := ⟨fun pos pins s σ H Q I q => h.run pos pins s σ H Q I (w σ H Q q)⟩
theorem dk_nil : DK X F [] dNil := impK pk_nil fun σ H Q ⟨env, os, r, Q', z, f⟩ => f _ _ z [] os H (Go.refl r) .nil
theorem dk_cons {t : DTE} {u : DTA} {nm : Option Str} (h : DE X F e t) (g : DK X F kws u) : DK X F (⟨nm, e, kpos⟩ :: kws) (dCons t u) :=
  impK (pk_cons h g) fun σ H Q ⟨env, os, r, Q', z, f⟩ => ⟨env, os, r, _, z, fun d e1 q v os1 H1 g1 h1 => ⟨e1, os1, g1.r, _, q, fun ds e2 q2 vs os2 H2 g2 h2 =>
    f _ _ q2 (v :: vs) os2 H2 (g1.trans r g2) (.cons (h1.up (g2.hs g1.r)) h2)⟩⟩
/-- o.m(k2 = e2, k1 = e1) -/
structure MtK (P : Program) (w : World) (K : PySem.W.Frag) (mg : Str → Option Value) (base : Heap) (CX : CXT) (k : Nat) (C : Addr) (m : Str) (ks : List Str) (df : DF) : Prop where
  ex : ∃ f fd ps, Meth K C m f ∧ FnOk P w K mg base CX k f fd ps (spD K 3 df) ∧ ∀ (s : Shared) (a b c : Value), BindsTo s fd ⟨[a], ks.zip [b, c]⟩ (ps.zip [a, c, b])
def dMethK (C : Addr) (m : Str) (df : DF) (xr : Er → Ev → Prop) (t : DTE) (ta : DTA) : DTE := fun env Q => t env fun d e1 => (isO C d ∧ noF m d) ∧ ta e1 fun ds e2 => match ds with
  | [d1, d2] => df [d, d2, d1] (fun d => Q d e2) fun e => xr e e2
  | _ => False
def tMethKS (C : Addr) (m : Str) (sp : Sp) (E : L2.St → XK) (ta : TE) (t : TA) : TE := fun σ H Q => ta σ H fun x H1 => ∃ a dx fs, x = .ref a ∧ H1 a = some (.ins C dx fs) ∧ fs.lookup m = none ∧ t σ H1 fun zs H2 => ∃ z1 z2, zs = [z1, z2] ∧ sp [.ref a, z2, z1] H2 Q (E σ)
theorem pe_mKS {pl : Sem Bool} {ta : TE} {tk : TA} {E : L2.St → XK} {sp : Sp} {CX : CXT} {fd : FuncData} {ps ks : List Str} (he : PE X o ta) (c : Cls X.K C) (hm : Meth X.K C m f) (G : FnOk X.prog X.w X.K X.mg X.base CX k f fd ps sp) (hr : Room k X.A)
    (bd : ∀ (s : Shared) (a b c : Value), BindsTo s fd ⟨[a], ks.zip [b, c]⟩ (ps.zip [a, c, b])) (hx : ∀ σ, PassesAt CX X σ (E σ)) (hkw : PK X kws tk)
    (hall : (backToKw pos (keywordEach kws X.env)).all (·.1.isSome) = true) (hks : (backToKw pos (keywordEach kws X.env)).filterMap (·.1) = ks)
    (hpl : ((backTo pos (starEach [] X.env)).any (·.1) || (backToKw pos (keywordEach kws X.env)).any (·.1.isNone)) = false)
    (ht : eval (.Call (.Attribute o m apos) [] kws pos) X.env = (do let ov ← eval o X.env; standAt apos.atName; let (f, first) ← holding [ov] (getMethod ov m pl); callWith pos f first (backTo pos (starEach [] X.env)) (backToKw pos (keywordEach kws X.env)))) :
    PE X (.Call (.Attribute o m apos) [] kws pos) (tMethKS C m sp E ta tk) :=
  ⟨fun pins s σ H Q I h => PySem.W.methodCall_KW (pl := pl) (thn (he.run pins s σ H _ I h) fun u s1 ⟨x, H1, I1, rx, a, dx, fs, ex, ea, l, q⟩ => by
    subst ex; obtain rfl : u = Value.ref a := rx
    refine getmeth_ok I1 ea c hm l (PySem.W.callWith_KW0 (first := [.ref a]) (h₀ := X.base) I.ok.mod.kin hm.kp hall (thn (hkw.run pos pins s1 σ H1 _ I1 q) ?_) hpl)
    rintro ws s2 ⟨zs, H2, I2, rz, z1, z2, e, q⟩
    subst e
    obtain ⟨u1, u2, rfl, r1, r2⟩ := vals2 rz
    refine ⟨I2.kIn, ?_⟩
    rw [hks]
    refine wpAny_call (codeAny_mono (G.run X.A X.stack s2 H2 ⟨[.ref a], ks.zip [u1, u2]⟩ [.ref a, u2, u1] [.ref a, z2, z1] Q (E σ) hr I2.env0 (bd s2 (.ref a) u1 u2) (.cons rfl (.cons r2 (.cons r1 .nil))) q) ?_)
    intro r s' hq
    match r, hq with
    | .error e, hq => exact hx σ pins H2 s2 e s' I2 hq
    | .ok (.ret u), hq => exact I2.after hq
    | .ok .next, hq => exact False.elim hq
    | .ok .brk, hq => exact False.elim hq
    | .ok .cont, hq => exact False.elim hq) ht⟩
theorem de_methKT {pl : Sem Bool} {W : WX} {xr : Er → Ev → Prop} {ks : List Str} (c : Cls X.K C) (T : MtK X.prog X.w X.K X.mg X.base (L2N.CX X.prog X.w) k C m ks df) (hr : Room j X.A) (tk : L2N.Takes X W) (hE : ExW X.K F W xr) (ho : DE X F o t) (ha : DK X F kws ta) (hj : k ≤ j := by decide)
    (hall : (backToKw pos (keywordEach kws X.env)).all (·.1.isSome) = true := by rfl) (hks : (backToKw pos (keywordEach kws X.env)).filterMap (·.1) = ks := by rfl)
    (hpl : ((backTo pos (starEach [] X.env)).any (·.1) || (backToKw pos (keywordEach kws X.env)).any (·.1.isNone)) = false := by rfl)
    (ht : eval (.Call (.Attribute o m apos) [] kws pos) X.env = (do let ov ← eval o X.env; standAt apos.atName; let (f, first) ← holding [ov] (getMethod ov m pl); callWith pos f first (backTo pos (starEach [] X.env)) (backToKw pos (keywordEach kws X.env))) := by rfl) :
    DE X F (.Call (.Attribute o m apos) [] kws pos) (dMethK C m df xr t ta) := by
  obtain ⟨f, fd, ps, hm, G, bd⟩ := T.ex
  refine imp (pe_mKS (pl := pl) ho c hm G (hr.mono hj) bd (fun σ => L2N.passAt tk σ) ha hall hks hpl ht) fun σ H Q ⟨env, os, r, Q', z, fin⟩ => ⟨env, os, r, _, z, fun d e1 ⟨⟨io, nf⟩, q⟩ v os1 H1 g1 hd => ?_⟩
  obtain ⟨a, dx, ns, vs, ds, rfl, rfl, h1, h2, h3⟩ := hd.ins io
  refine ⟨a, dx, _, rfl, (hid_of h1).1, lookup_no nf, e1, os1, g1.r, _, q, fun es e2 q ws os2 H2 g2 hw => ?_⟩
  match es, q, hw with
  | [d1, d2], q, .cons w1 (.cons w2 .nil) =>
    exact ⟨_, _, rfl, [.obj C ns ds, d2, d1], os2, rfl, g2.r.here, .cons (hd.up (g2.hs g1.r)) (.cons w2 (.cons w1 .nil)), _, _, q, fun d q v H' s w => fin _ _ q v os2 H' ((g1.trans r g2).trans r (Go.same g2.r s)) w, fun er q => hE er e2 q σ os2 H2 g2.r⟩
/-! ### [*xs, ..] -/
def dStar (t : DTV) (u : DTA) : DTA := fun env Q => t env fun rv e1 => rv.seq fun _ ds => u e1 fun es e2 => Q (ds ++ es) e2
theorem da_star {t : DTV} {u : DTA} (h : DV X F e t) (g : DA X F es u) (hs : starEach (.Starred e p :: es) X.env = (true, eval e X.env) :: starEach es X.env := by rfl) : DA X F (.Starred e p :: es) (dStar t u) :=
  impA (StX.pa_star h g hs) fun σ H Q ⟨env, os, r, Q', z, f⟩ => ⟨env, os, r, _, z, fun rv e1 q v os1 H1 g1 hd n => by
    obtain ⟨a, vs, ds, b, rfl, l1, l2, da, q⟩ := hd.seq g1.r q
    refine ⟨a, vs, rfl, ?_, e1, os1, g1.r, _, q, fun es e2 q2 ws os2 H2 g2 h2 => f _ _ q2 (vs ++ ws) os2 H2 (g1.trans r g2) ((da.up (g2.hs g1.r)).append h2)⟩
    cases b with
    | false => exact .inr (l1 rfl)
    | true => exact .inl (l2 rfl)⟩
end
/-! ### sorted of pairs -/
def prD (p : Int × Int) : D := .tup [.int p.1, .int p.2]
def lePr (p q : Int × Int) : Prop := p.1 * 10 + p.2 ≤ q.1 * 10 + q.2
def oSortP : Rv → (Rv → Prop) → Prop := fun a k => a.lsq fun ds => ∃ ps : List (Int × Int), ds = ps.map prD ∧ ps.length < 64 ∧ (∀ p ∈ ps, 0 ≤ p.1 ∧ p.1 < 10 ∧ 0 ≤ p.2 ∧ p.2 < 10) ∧ ∀ qs : List (Int × Int), qs.Perm ps → qs.Pairwise lePr → k (.new (qs.map prD))
theorem drA_cons {K : PySem.W.Frag} {H : Hp} {vs : List V} {d : D} {ds : List D} (h : DrA K H vs (d :: ds)) : ∃ v us, vs = v :: us ∧ Dr K H v d ∧ DrA K H us ds := by
  cases h with
  | cons h r => exact ⟨_, _, rfl, h, r⟩
theorem drA_nil {K : PySem.W.Frag} {H : Hp} {vs : List V} (h : DrA K H vs []) : vs = [] := by
  cases h
  rfl
theorem dr_int {K : PySem.W.Frag} {H : Hp} {v : V} {i : Int} (h : Dr K H v (.int i)) : v = .int i := by
  cases h
  rfl
theorem dr_tup {K : PySem.W.Frag} {H : Hp} {v : V} {ds : List D} (h : Dr K H v (.tup ds)) : ∃ a xs, v = .ref a ∧ SqT K H a xs ∧ DrA K H xs ds := by
  cases h with
  | tup h1 h2 => exact ⟨_, _, rfl, h1, h2⟩
theorem DrA.permM {K : PySem.W.Frag} {H : Hp} {α : Type} {g : α → D} {vs ys : List V} (pm : vs.Perm ys) : ∀ {ps : List α}, DrA K H vs (ps.map g) → ∃ qs : List α, qs.Perm ps ∧ DrA K H ys (qs.map g) := by
  induction pm with
  | nil => intro ps h; exact ⟨ps, .refl _, h⟩
  | cons x _ ih =>
    intro ps h
    cases ps with
    | nil => cases h
    | cons p ps =>
      cases h with
      | cons h1 h2 =>
        obtain ⟨qs, q1, q2⟩ := ih h2
        exact ⟨p :: qs, q1.cons p, .cons h1 q2⟩
  | swap x y l =>
    intro ps h
    cases ps with
    | nil => cases h
    | cons p ps =>
      obtain ⟨v, us, e, h1, h2⟩ := drA_cons h
      cases e
      cases ps with
      | nil => cases h2
      | cons p' ps =>
        obtain ⟨v', us', e', h3, h4⟩ := drA_cons h2
        cases e'
        exact ⟨p' :: p :: ps, .swap p p' ps, .cons h3 (.cons h1 h4)⟩
  | trans _ _ ih1 ih2 =>
    intro ps h
    obtain ⟨qs, q1, q2⟩ := ih1 h
    obtain ⟨rs, r1, r2⟩ := ih2 q2
    exact ⟨rs, r1.trans q1, r2⟩
theorem prD_tup {K : PySem.W.Frag} {H H' : Hp} {x : V} {p : Int × Int} (s : Same H H') (h : Dr K H x (prD p)) : TupI K H' x [p.1, p.2] := by
  obtain ⟨a, xs, rfl, h1, h2⟩ := dr_tup (ds := [.int p.1, .int p.2]) h
  obtain ⟨v1, u1, rfl, r1, h3⟩ := drA_cons h2
  obtain ⟨v2, u2, rfl, r2, h4⟩ := drA_cons h3
  cases dr_int r1
  cases dr_int r2
  cases drA_nil h4
  exact ⟨a, rfl, Same.seqT s h1⟩
theorem pr_sorted {K : PySem.W.Frag} {H H' : Hp} (s : Same H H') : ∀ {qs : List (Int × Int)} {ys : List V}, DrA K H ys (qs.map prD) → ys.Pairwise (fun x y => ∀ n m, TupI K H' x n → TupI K H' y m → TS.code 10 n ≤ TS.code 10 m) → qs.Pairwise lePr
  | [], _, _, _ => .nil
  | q :: qs, ys, h, pw => by
    obtain ⟨v, us, rfl, h1, h2⟩ := drA_cons h
    have p1 := List.pairwise_cons.mp pw
    refine List.pairwise_cons.mpr ⟨fun q' hq' => ?_, pr_sorted s h2 p1.2⟩
    obtain ⟨i, hi⟩ := List.getElem?_of_mem (List.mem_map.mpr ⟨q', hq', rfl⟩ : prD q' ∈ qs.map prD)
    obtain ⟨v', e, d⟩ := h2.put hi
    have z := p1.1 v' (List.mem_of_getElem? e) _ _ (prD_tup s h1) (prD_tup s d)
    have c : ∀ x y : Int, TS.code 10 [x, y] = x * 10 + y := fun x y => by
      show x * 10 ^ 1 + (y * 10 ^ 0 + 0) = x * 10 + y
      omega
    rw [c, c] at z
    exact z
theorem l_sortP {K : PySem.W.Frag} : Lift1 K (fun v => rSortU K 2 10 [v]) oSortP := fun F os env σ H v ra Q k r ha h q => by
  obtain ⟨a, vs, ds, rfl, h1, d1, ps, rfl, l, hb, h⟩ := ha.lsq r h
  refine ⟨a, vs, rfl, h1, by rw [d1.length, List.length_map]; exact l, fun x hx => ?_, fun ys p pm pw np => ?_⟩
  · obtain ⟨d, hd, dr⟩ := d1.mem hx
    obtain ⟨pq, hp, rfl⟩ := List.mem_map.mp hd
    refine ⟨[pq.1, pq.2], prD_tup hid_same dr, rfl, fun m hm => ?_⟩
    have := hb pq hp
    rcases List.mem_cons.mp hm with rfl | hm
    · omega
    · rw [List.mem_singleton.mp hm]; omega
  · obtain ⟨qs, q1, q2⟩ := d1.permM pm.symm
    refine q _ _ _ _ (h qs q1 (pr_sorted hid_same q2 pw)) (Go.hide r np) (r.newL np q2) fun p' e m => ?_
    cases e
    exact r.off np m
theorem lePr_uniq {ps qs rs : List (Int × Int)} (hb : ∀ p ∈ ps, 0 ≤ p.1 ∧ p.1 < 10 ∧ 0 ≤ p.2 ∧ p.2 < 10) (h1 : qs.Perm ps) (h2 : rs.Perm ps) (p1 : qs.Pairwise lePr) (p2 : rs.Pairwise lePr) : qs = rs :=
  (h1.trans h2.symm).eq_of_pairwise (le := lePr) (fun a b ha hb' l1 l2 => by
    have x := hb a (h1.subset ha)
    have y := hb b (h2.subset hb')
    unfold lePr at l1 l2
    refine Prod.ext ?_ ?_ <;> omega) p1 p2
/-! ### sorted(set(t)) -/
def rSetI (K : PySem.W.Frag) (w : World) : List V → Hp → VK → Prop := fun vs H Q => ∃ (a : Addr) (ns : List Int), vs = [V.ref a] ∧ SqT K H a (ns.map V.int) ∧ ns.length ≤ 60 ∧ ∀ p n, n ≤ ns.length → H p = none → Q (.ref p) (upd H p (SetO w p (fun j => decide (j ∈ ns)) n))
theorem cr_setT {X : Cx} (hc : X.calm = true) : CallR X (.type "set") (rSetI X.K X.w) := by
  intro pins s σ H vs us Q I r h
  obtain ⟨a, ns, rfl, hq, hl, q⟩ := h
  rw [Vals.ref1 r]
  obtain ⟨its, rv, pt, hz⟩ := I.tuple hq
  have hi : IntsAre its.toArray.toList ns := ints_of_vals rv
  refine call_set_tupI ns (I.ok.hd hc) (show s.heap.IsTuple a its.toArray from pt) hi (by unfold scanBound; omega) fun h' tk c R1 hcn k => ?_
  exact ⟨.ref _, upd H s.heap.objs.size (SetO X.w s.heap.objs.size (fun j => decide (j ∈ ns)) c), I.laid (t' := tk) k (Nat.le_refl _) (setO_new R1), rfl, q _ c hcn (I.hok.fresh (Nat.le_refl _))⟩
def oSSet : Rv → (Rv → Prop) → Prop
  | .dat (.tup ds), k => ∃ ns : List Int, ds = ns.map D.int ∧ ns.length ≤ 60 ∧ ∀ ms : List Int, ms.Pairwise (· < ·) → (∀ x, x ∈ ms ↔ x ∈ ns) → k (.new (ms.map D.int))
  | _, _ => False
theorem ints_V {K : PySem.W.Frag} {H : Hp} : ∀ {ns : List Int} {vs : List V}, DrA K H vs (ns.map D.int) → vs = ns.map V.int
  | [], _, .nil => rfl
  | n :: ns, _, .cons (.int _) r => by rw [ints_V r]; rfl
theorem ints_D {K : PySem.W.Frag} {H : Hp} : ∀ {ns : List Int}, DrA K H (ns.map V.int) (ns.map D.int)
  | [] => .nil
  | n :: ns => .cons (.int n) ints_D
section
variable {X : Cx} {F : Fm} {a b : Expr} {pos pos2 p p2 : Pos} {ta : DTV}
theorem dv_sset (hc : X.calm = true) (ms : X.mg "sorted" = none) (mt : X.mg "set" = none) (h : DV X F a ta) (hg : Gl X "sorted" := by rfl) (hg2 : Gl X "set" := by rfl)
    (he : starEach [.Call (.Name "set" p2) [a] [] pos2] X.env = (false, eval (.Call (.Name "set" p2) [a] [] pos2) X.env) :: starEach [] X.env := by rfl) (he2 : starEach [a] X.env = (false, eval a X.env) :: starEach [] X.env := by rfl) (hpl : (backTo pos (starEach [] X.env)).any (·.1) = false := by rfl) (hpl2 : (backTo pos2 (starEach [] X.env)).any (·.1) = false := by rfl) :
    DV X F (.Call (.Name "sorted" p) [.Call (.Name "set" p2) [a] [] pos2] [] pos) (dUn oSSet ta) :=
  imp (pe_callB (cr_sortedSet hc) hg ms (by decide +kernel) (pa_cons (pe_callTy (cr_setT hc) hg2 mt (by decide +kernel) (pa_cons h pa_nil he2) (by decide) (by decide) he2 hpl2) pa_nil he) (by decide) (by decide) he hpl) fun σ H Q ⟨env, os, r, Q', z, f⟩ =>
    ⟨env, os, r, _, z, fun rv e1 q v os1 H1 g1 hd n1 => by
      match rv, q, hd with
      | .dat (.tup ds), ⟨ns, e, l, q⟩, hd =>
        subst e
        obtain ⟨b, vs, rfl, h1, h2⟩ := hd_tup hd
        obtain rfl := ints_V h2
        refine ⟨b, ns, rfl, Same.seqT hid_same h1, l, fun p n hn np => ⟨p, _, n, rfl, upd_same, by omega, fun ms p' pw mm _ np' => ?_⟩⟩
        have g2 := Go.same g1.r (same_new (o := SetO X.w p (fun j => decide (j ∈ ns)) n) np)
        have g12 := g1.trans r g2
        refine f _ _ (q ms pw fun x => by rw [mm x]; exact decide_eq_true_iff) _ _ _ (g12.trans r (Go.hide g2.r np')) (g2.r.newL np' ints_D) fun p'' e m => ?_
        cases e
        exact g2.r.off np' (g12.sub _ m)⟩
/-! ### max -/
def dMax (t : DTA) : DTE := fun env Q => t env fun ds e1 => match ds with
  | [.int i, .int j] => Q (.int (if j > i then j else i)) e1
  | _ => False
theorem de_max {t : DTA} (hc : X.calm = true) (hm : X.mg "max" = none) (h : DA X F [a, b] t) (hg : Gl X "max" := by rfl) (he : starEach [a, b] X.env = (false, eval a X.env) :: starEach [b] X.env := by rfl) (hpl : (backTo pos (starEach [b] X.env)).any (·.1) = false := by rfl) : DE X F (.Call (.Name "max" p) [a, b] [] pos) (dMax t) :=
  imp (pe_callB (call_max2 hc) hg hm (by decide +kernel) h (by decide) (by decide) he hpl) fun σ H Q ⟨env, os, r, Q', z, f⟩ => ⟨env, os, r, _, z, fun ds e1 q vs os1 H1 g1 hd => by
    match ds, q, hd with
    | [.int i, .int j], q, .cons (.int _) (.cons (.int _) .nil) => exact ⟨i, j, rfl, f _ _ q _ os1 H1 g1 (.int _)⟩⟩
end
end DL
/-! comprehensions with two generators, the second one a range -/
namespace DL
open PySem PySem.Spec PyProof.Rows L2 LL
def upIr (K : PySem.W.Frag) (F : Fm) (t : DTI) : TI := fun σ H Q => ∃ env os, R K F os H σ env ∧ ∃ Q', t env Q' ∧ ∀ ds env', Q' ds env' → ∀ lo n os' H', ds = rgD lo n → Go K F σ os H env os' H' env' → Q (Itr lo n) H'
def unIr (K : PySem.W.Frag) (F : Fm) (t : DTI) : TI := fun σ H Q => ∃ F', Sub K F' F ∧ upIr K F' t σ H Q
section
variable {X : Cx} {F : Fm} {e a b tg : Expr} {p pos tpos : Pos}
theorem di_rg2r {t : DTA} (hm : X.mg "range" = none) (h : DA X F [a, b] t) (hg : Gl X "range" := by rfl) (hs : starEach [a, b] X.env = [(false, eval a X.env), (false, eval b X.env)] := by rfl) (hs2 : starEach [b] X.env = [(false, eval b X.env)] := by rfl) : PI X tg (.Call (.Name "range" p) [a, b] [] pos) (upIr X.K F (diRg2 t)) :=
  ⟨fun pins s σ H Rr I ⟨env, os, r, Q', q, w⟩ => (pi_range2 (tg := tg) hg hm h hs hs2).run pins s σ H Rr I ⟨env, os, r, _, q, fun ds e1 q vs os1 H1 g1 hd => by
    match ds, q, hd with
    | [.int i, .int j], ⟨⟨i0, i1, j0, j1⟩, q⟩, .cons (.int _) (.cons (.int _) .nil) => exact ⟨i, j, rfl, by omega, w _ _ q _ _ os1 H1 rfl g1⟩⟩⟩
end
theorem R.appD {K : PySem.W.Frag} {F : Fm} {os : List Addr} {H : Hp} {σ : L2.St} {env : Ev} {D : Addr} {l : List V} (z : R K F os H σ env) (mD : D ∈ os) (off : ∀ i, adAt env i ≠ some D) (hB : D ∈ F.B) : R K F os (upd H D (.lst l)) σ env := by
  have hu : hid os (upd H D (.lst l)) = hid os H := hid_upd mD
  refine ⟨z.len, fun j t ej => ?_, z.nd, z.mem, fun c o n q => ?_, z.new, z.sub, fun c hc => ?_, z.hB, z.osn⟩
  · obtain ⟨x', e1', q'⟩ := z.sl j t ej
    refine ⟨x', e1', ?_⟩
    cases t with
    | no => exact q'
    | dat d => obtain ⟨v, e2, q⟩ := q'; exact ⟨v, e2, by rw [hu]; exact q⟩
    | exc a dd ns ds => obtain ⟨e2, vs, e3, l3, q⟩ := q'; exact ⟨e2, vs, by rw [hu]; exact e3, l3, by rw [hu]; exact q⟩
    | own b bs =>
      obtain ⟨e2, ws, e3', q⟩ := q'
      refine ⟨e2, ws, ?_, by rw [hu]; exact q⟩
      rw [upd_ne fun z' => off j (by unfold adAt; rw [ej, ← z']; rfl)]
      exact e3'
    | bag b =>
      obtain ⟨e2, o, e3', q⟩ := q'
      refine ⟨e2, o, ?_, q⟩
      rw [upd_ne fun z' => off j (by unfold adAt; rw [ej, ← z']; rfl)]
      exact e3'
    | any => trivial
  · rw [upd_ne fun z' => n (by rw [z']; exact hB)]
    exact z.keep c o n q
  · by_cases z' : c = D
    · rw [z', upd_same]; simp
    · rw [upd_ne z']; exact z.here c hc
theorem wipe_wipe {σ : L2.St} {vs vs1 : List Nat} (h : ∀ i ∈ vs1, i ∈ vs) : L2.wipe (L2.wipe σ vs1) vs = L2.wipe σ vs := by
  apply List.ext_getElem?
  intro i
  by_cases m : i ∈ vs
  · by_cases l : i < σ.length
    · rw [wipe_in _ vs m (by rw [wipe_length]; exact l), wipe_in σ vs m l]
    · rw [List.getElem?_eq_none (by rw [wipe_length, wipe_length]; omega), List.getElem?_eq_none (by rw [wipe_length]; omega)]
  · rw [wipe_get _ vs m, wipe_get σ vs1 (fun z => m (h i z)), wipe_get σ vs m]
theorem wipeE_wipeE {e : Ev} {vs vs1 : List Nat} (h : ∀ i ∈ vs1, i ∈ vs) : wipeE (wipeE e vs1) vs = wipeE e vs := by
  apply List.ext_getElem?
  intro i
  by_cases m : i ∈ vs
  · by_cases l : i < e.length
    · rw [wipeE_in _ vs m (by rw [wipeE_len]; exact l), wipeE_in e vs m l]
    · rw [List.getElem?_eq_none (by rw [wipeE_len, wipeE_len]; omega), List.getElem?_eq_none (by rw [wipeE_len]; omega)]
  · rw [wipeE_get _ vs m, wipeE_get e vs1 (fun z => m (h i z)), wipeE_get e vs m]
def dLc2 (ti : DTI) (g : DTG) (tt : DTT) (ti1 : DTI) (g1 : DTG) (tt1 : DTT) (te : DTE) (vs vs1 : List Nat) : DTV := fun env Q => ti env fun ds e1 => noAd e1 vs ∧ ∃ I : Nat → List D → Prop, I 0 [] ∧
  (∀ i d acc, ds[i]? = some d → I i acc → g d (wipeE e1 vs) fun e2 => (wipeE e2 vs = wipeE e1 vs ∧ noAd e2 vs) ∧ tt e2 fun b e3 => e3 = e2 ∧ if b = true then ti1 e3 fun ds1 e4 => e4 = e3 ∧ ∃ I1 : Nat → List D → Prop, I1 0 acc ∧
      (∀ j d1 acc1, ds1[j]? = some d1 → I1 j acc1 → g1 d1 (wipeE e4 vs1) fun e5 => (wipeE e5 vs1 = wipeE e4 vs1 ∧ noAd e5 vs ∧ wipeE e5 vs = wipeE e1 vs) ∧ tt1 e5 fun b e6 => e6 = e5 ∧ if b = true then te e6 fun d' e7 => e7 = e6 ∧ acc1.length < 1000 ∧ I1 (j + 1) (acc1 ++ [d']) else I1 (j + 1) acc1) ∧ ∀ acc1, I1 ds1.length acc1 → I (i + 1) acc1
    else I (i + 1) acc) ∧ ∀ acc, I ds.length acc → Q (.new acc) e1
theorem lc2_run {K : PySem.W.Frag} {F : Fm} {ti ti1 : DTI} {g g1 : DTG} {tt tt1 : DTT} {te : DTE} {vs vs1 ts ts1 : List Nat} {σ : L2.St} {H : Hp} {Q : VK} (hts : ∀ i ∈ ts, i ∈ vs) (hts1 : ∀ i ∈ ts1, i ∈ vs1) (hv : ∀ i ∈ vs1, i ∈ vs) (h : upV K F (dLc2 ti g tt ti1 g1 tt1 te vs vs1) σ H Q) :
    tLc2 (upI K F ti) (unG K F ts g) (unT K F tt) (unIr K F ti1) (unG K F ts1 g1) (unT K F tt1) (unE K F te) vs vs1 σ H Q := by
  obtain ⟨env, os, r, Q', q, w⟩ := h
  refine ⟨env, os, r, _, q, fun ds e1 ⟨na, Iv, i0, it, ie⟩ J os1 H1 g1' hw D hD => ?_⟩
  obtain ⟨G, Y, wk, hG, hY⟩ := hw
  have rD := (g1'.r.hide (o := .lst []) hD)
  have na' : ∀ i, adAt (wipeE e1 vs) i = adAt e1 i := wipeE_ad na
  let FD : Fm := ⟨upd H1 D (.lst []), D :: ads e1, D :: os1⟩
  have rF : R K FD (D :: os1) (upd H1 D (.lst [])) σ e1 :=
    ⟨rD.len, rD.sl, rD.nd, rD.mem, fun _ _ _ e => e, fun i a e => .inl (List.mem_cons_of_mem _ (mem_ads.mpr ⟨i, e⟩)), fun _ h => h, rD.here, fun b hb => by
      rcases List.mem_cons.mp hb with z | z
      · rw [z]; exact List.mem_cons_self
      · obtain ⟨i, e⟩ := mem_ads.mp z; exact rD.mem i b e, fun _ h => .inl h⟩
  have offD : ∀ i, adAt e1 i ≠ some D := fun i z => g1'.r.off hD (g1'.r.mem i D z)
  have sub : Sub K FD F := by
    refine ⟨fun os' H' σ' env' q => ⟨q.len, q.sl, q.nd, q.mem, fun c o n e => ?_, fun i a e => ?_, fun a h => q.sub a (List.mem_cons_of_mem _ (g1'.r.sub a h)), q.here, r.hB, fun a h => ?_⟩, fun p h => ?_, fun p h => List.mem_cons_of_mem _ (g1'.r.sub p h)⟩
    · have e1' := g1'.r.keep c o n e
      refine q.keep c o (fun z => ?_) (same_new hD _ _ e1')
      rcases List.mem_cons.mp z with z | z
      · rw [z, hD] at e1'; cases e1'
      · obtain ⟨i, z⟩ := mem_ads.mp z
        rcases g1'.r.new i c z with w | w
        · exact n w
        · rw [w] at e; cases e
    · rcases q.new i a e with w | w
      · rcases List.mem_cons.mp w with w | w
        · rw [w]; exact .inr (g1'.r.new0 hD)
        · obtain ⟨j, w⟩ := mem_ads.mp w
          exact g1'.r.new j a w
      · exact .inr (g1'.r.new0 ((same_new (o := .lst []) hD).free w))
    · rcases q.osn a h with w | w
      · rcases List.mem_cons.mp w with w | w
        · rw [w]; exact .inr (g1'.r.new0 hD)
        · exact g1'.r.osn a w
      · exact .inr (g1'.r.new0 ((same_new (o := .lst []) hD).free w))
    · exact g1'.r.new0 ((same_new (o := .lst []) hD).free h)
  have toH1 : Same (hid os1 H1) (hid (D :: os1) (upd H1 D (.lst []))) := hid_new hD
  have offW : ∀ i, adAt (wipeE e1 vs) i ≠ some D := fun i => by rw [na']; exact offD i
  have offV : ∀ e2 : Ev, wipeE e2 vs = wipeE e1 vs → noAd e2 vs → ∀ i, adAt e2 i ≠ some D := fun e2 we na2 i z => by
    by_cases m : i ∈ vs
    · rw [na2.at_ m] at z; cases z
    · have : adAt (wipeE e2 vs) i = some D := by unfold adAt at z ⊢; rw [wipeE_get e2 vs m]; exact z
      rw [we] at this
      exact offW i this
  refine ⟨fun i m H => m = ds.length - i ∧ i ≤ ds.length ∧ ∃ os acc av, R K FD os H (wipe σ vs) (wipeE e1 vs) ∧ H D = some (.lst av) ∧ DrA K (hid os H) av acc ∧ Iv i acc, ⟨ds.length, by simp, Nat.zero_le _, D :: os1, [], [], rF.wip, upd_same, .nil, i0⟩, ?_⟩
  rintro i m H ⟨rfl, hi, os, acc, av, r, hav, da, iv⟩
  have hGH : G H := by
    refine hG H fun c o n e => r.keep c o (fun z => ?_) (same_new hD _ _ e)
    rcases List.mem_cons.mp z with z | z
    · rw [z, hD] at e; cases e
    · exact n z
  by_cases hlt : i < ds.length
  · refine .inr ⟨wk.goes i H hlt hGH, fun H => ∃ os acc av, R K FD os H (wipe σ vs) (wipeE e1 vs) ∧ H D = some (.lst av) ∧ DrA K (hid os H) av acc ∧ Iv (i + 1) acc, fun H' p' => ⟨ds.length - (i + 1), by omega, rfl, hlt, p'⟩, fun x Hb y => ?_⟩
    obtain ⟨d, hd⟩ : ∃ d, ds[i]? = some d := ⟨ds[i], List.getElem?_eq_getElem hlt⟩
    obtain ⟨sm, dr⟩ := hY i H x Hb d hd (wk.yields i H x Hb hlt hGH y)
    refine ⟨FD, sub, wipeE e1 vs, os, d, r.same sm, dr os (toH1.trans r.base) r.here, _, it i d acc hd iv, fun e2 ⟨⟨we, na2⟩, q2⟩ σ2 of2 r2 => ⟨of2.wipe hts, FD, sub, e2, os, r2, _, q2, fun b e3 ⟨ee, q3⟩ os3 H3 g3 => ?_⟩⟩
    subst ee
    have wσ := of2.wipe hts
    have offE := offV e3 we na2
    have av3 : H3 D = some (.lst av) := g3.but D _ offE (sm _ _ hav)
    have da3 := (da.up (hid_up sm)).up (g3.hs r2)
    cases b with
    | false =>
      have z := g3.r.wip (vs := vs)
      rw [wσ, we] at z
      exact iteF ⟨os3, acc, av, z, av3, da3, by simpa using q3⟩
    | true =>
      simp only [if_true] at q3 ⊢
      refine ⟨FD, sub, e3, os3, g3.r, _, q3, fun ds1 e4 ⟨ee, I1, j0, jt, je⟩ lo n os4 H4 eds g4 => ?_⟩
      subst ee
      subst eds
      have av4 : H4 D = some (.lst av) := g4.but D _ offE av3
      have da4 := da3.up (g4.hs g3.r)
      have hlen : (rgD lo n).length = n := by unfold rgD; rw [List.length_map, List.length_range]
      refine ⟨fun j k H => k = n - j ∧ j ≤ n ∧ ∃ os acc av, R K FD os H (wipe σ2 vs1) (wipeE e4 vs1) ∧ H D = some (.lst av) ∧ DrA K (hid os H) av acc ∧ I1 j acc, ⟨n, by simp, Nat.zero_le _, os4, acc, av, g4.r.wip, av4, da4, j0⟩, ?_⟩
      rintro j k H5 ⟨rfl, hj, os5, acc5, av5, r5, hav5, da5, jv⟩
      by_cases jlt : j < n
      · refine .inr ⟨walk_range.goes j H5 jlt trivial, fun H => ∃ os acc av, R K FD os H (wipe σ2 vs1) (wipeE e4 vs1) ∧ H D = some (.lst av) ∧ DrA K (hid os H) av acc ∧ I1 (j + 1) acc, fun H' p' => ⟨n - (j + 1), by omega, rfl, jlt, p'⟩, fun x Hb y => ?_⟩
        obtain ⟨y1, y2⟩ := walk_range.yields j H5 x Hb jlt trivial y
        subst y1 y2
        have hd1 : (rgD lo n)[j]? = some (.int (lo + ((j : Nat) : Int))) := by unfold rgD; rw [List.getElem?_map, List.getElem?_range jlt]; rfl
        refine ⟨FD, sub, wipeE e4 vs1, os5, _, r5, .int _, _, jt j _ acc5 hd1 jv, fun e5 ⟨⟨we5, na5, wf5⟩, q5⟩ σ3 of3 r3 => ⟨of3.wipe hts1, FD, sub, e5, os5, r3, _, q5, fun b e6 ⟨ee, q6⟩ os6 H6 g6 => ?_⟩⟩
        subst ee
        have wσ3 := of3.wipe hts1
        have off5 := offV e6 wf5 na5
        have back : ∀ os4' H4', R K FD os4' H4' σ3 e6 → R K FD os4' H4' (wipe σ2 vs1) (wipeE e4 vs1) := fun os4' H4' r4 => by
          have z := r4.wip (vs := vs1)
          rw [wσ3, we5] at z
          exact z
        have offB : ∀ i, adAt (wipeE e4 vs1) i ≠ some D := fun i z => offE i (wipeE_ad' z)
        have av6 : H6 D = some (.lst av5) := g6.but D _ off5 hav5
        have da6 := da5.up (g6.hs r3)
        cases b with
        | false => exact iteF ⟨os6, acc5, av5, back _ _ g6.r, av6, da6, by simpa using q6⟩
        | true =>
          simp only [if_true] at q6 ⊢
          refine ⟨FD, sub, e6, os6, g6.r, _, q6, fun d' e7 ⟨ee, l7, q7⟩ y7 os7 H7 g7 hy7 => ?_⟩
          subst ee
          have av7 : H7 D = some (.lst av5) := g7.but D _ off5 av6
          have da7 := da6.up (g7.hs g6.r)
          have mD : D ∈ os7 := g7.r.sub D List.mem_cons_self
          have hu : hid os7 (upd H7 D (.lst (av5 ++ [y7]))) = hid os7 H7 := hid_upd mD
          refine ⟨av5, av7, ?_, os7, acc5 ++ [d'], av5 ++ [y7], (back _ _ g7.r).appD mD offB List.mem_cons_self, upd_same, by rw [hu]; exact da7.append (.cons hy7 .nil), q7⟩
          rw [da7.length]
          exact small1000 (Nat.le_of_lt l7)
      · have ej : j = n := by omega
        subst ej
        have z := r5.wip (vs := vs)
        rw [wipe_wipe hv, wipeE_wipeE hv, wσ, we] at z
        rw [← hlen] at jv
        exact .inl ⟨walk_range.stops H5 trivial, os5, acc5, av5, z, hav5, da5, je acc5 (by rw [hlen] at jv ⊢; exact jv)⟩
  · have ei : i = ds.length := by omega
    subst ei
    have hs : Same (hid os1 H1) (hid os H) := toH1.trans r.base
    have rr : R K FD os H σ e1 := g1'.r.unwipe na r hs
    have rq := sub.r _ _ _ _ rr
    have gg : Go K F σ os1 H1 e1 os H e1 := by
      refine ⟨rq, fun _ => rfl, fun c o n q => ?_, fun c hc => ?_, fun c hc => rr.sub c (List.mem_cons_of_mem _ hc)⟩
      · refine rr.keep c o (fun z => ?_) (same_new hD _ _ q)
        rcases List.mem_cons.mp z with z | z
        · rw [z, hD] at q; cases q
        · obtain ⟨i, z⟩ := mem_ads.mp z
          exact n i z
      · rcases rr.osn c hc with z | z
        · rcases List.mem_cons.mp z with z | z
          · exact .inr (by rw [z]; exact hD)
          · exact .inl z
        · exact .inr ((same_new (o := .lst []) hD).free z)
    refine .inl ⟨wk.stops H hGH, w _ _ (ie acc iv) _ os H (g1'.trans ‹R K F _ _ σ env› gg) ⟨D, av, rfl, rr.sub D List.mem_cons_self, offD, g1'.r.new0 hD, fun m => g1'.r.off hD (g1'.r.sub D m), hav, da⟩ fun p e m => ?_⟩
    cases e
    exact g1'.r.off hD (g1'.sub D m)
section
variable {X : Cx} {F : Fm} {elt tg iter tg1 iter1 : Expr} {ifs ifs1 : List Expr} {scope : Scope} {own : List (Str × Nat)} {pos spos : Pos} {ti ti1 : DTI} {g g1 : DTG} {tt tt1 : DTT} {te : DTE} {ts ts1 vs1 : List Nat}
theorem dv_lc2 (own : List (Str × Nat)) (vs1 : List Nat) (hc : X.calm = true) (hN : X.N.Nodup) (hi : DI X F tg iter ti) (ok : BlkOk X.N X.env.scope scope own)
    (hg : ∀ F', Sub X.K F' F → ∀ (s : Shared) (H : Hp) (C : Addr) (cl : List (Str × Addr)) (fp : List Addr), DG (X.blk s H scope (compEnvC scope cl C X.env) fp) F' tg ts g)
    (ht : ∀ F', Sub X.K F' F → ∀ (s : Shared) (H : Hp) (C : Addr) (cl : List (Str × Addr)) (fp : List Addr), DTs (X.blk s H scope (compEnvC scope cl C X.env) fp) F' ifs tt)
    (hi1 : ∀ F', Sub X.K F' F → ∀ (s : Shared) (H : Hp) (C : Addr) (cl : List (Str × Addr)) (fp : List Addr), PI (X.blk s H scope (compEnvC scope cl C X.env) fp) tg1 iter1 (upIr X.K F' ti1))
    (hg1 : ∀ F', Sub X.K F' F → ∀ (s : Shared) (H : Hp) (C : Addr) (cl : List (Str × Addr)) (fp : List Addr), DG (X.blk s H scope (compEnvC scope cl C X.env) fp) F' tg1 ts1 g1)
    (ht1 : ∀ F', Sub X.K F' F → ∀ (s : Shared) (H : Hp) (C : Addr) (cl : List (Str × Addr)) (fp : List Addr), DTs (X.blk s H scope (compEnvC scope cl C X.env) fp) F' ifs1 tt1)
    (he : ∀ F', Sub X.K F' F → ∀ (s : Shared) (H : Hp) (C : Addr) (cl : List (Str × Addr)) (fp : List Addr), DE (X.blk s H scope (compEnvC scope cl C X.env) fp) F' elt te)
    (hs : ∀ x, foldedSetIterable iter X.env x = pure x := by intro _; rfl) (hs1 : ∀ env x, foldedSetIterable iter1 env x = pure x := by intro _ _; rfl) (hts : ∀ i ∈ ts, i ∈ own.map (·.2) := by decide) (hts1 : ∀ i ∈ ts1, i ∈ vs1 := by decide) (hv : ∀ i ∈ vs1, i ∈ own.map (·.2) := by decide) :
    DV X F (.ListComp elt [⟨tg, iter, ifs, 0⟩, ⟨tg1, iter1, ifs1, 0⟩] scope pos) (dLc2 ti g tt ti1 g1 tt1 te (own.map (·.2)) vs1) :=
  imp (pe_lc2 (g := unG X.K F ts g) (tt := unT X.K F tt) (wi1 := unIr X.K F ti1) (g1 := unG X.K F ts1 g1) (tt1 := unT X.K F tt1) (te := unE X.K F te) hc hN hi ok hv
    (fun s H C cl fp => ⟨fun pins s1 σ H v u Q I r ⟨F', sf, h⟩ => (hg F' sf s _ C cl fp).run pins s1 σ H v u Q I r h⟩)
    (fun s H C cl fp => ⟨fun pins s1 σ H Q I ⟨F', sf, h⟩ => (ht F' sf s _ C cl fp).run pins s1 σ H Q I h⟩)
    (fun s H C cl fp => ⟨fun pins s1 σ H Q I ⟨F', sf, h⟩ => (hi1 F' sf s _ C cl fp).run pins s1 σ H Q I h⟩)
    (fun s H C cl fp => ⟨fun pins s1 σ H v u Q I r ⟨F', sf, h⟩ => (hg1 F' sf s _ C cl fp).run pins s1 σ H v u Q I r h⟩)
    (fun s H C cl fp => ⟨fun pins s1 σ H Q I ⟨F', sf, h⟩ => (ht1 F' sf s _ C cl fp).run pins s1 σ H Q I h⟩)
    (fun s H C cl fp => ⟨fun pins s1 σ H Q I ⟨F', sf, h⟩ => (he F' sf s _ C cl fp).run pins s1 σ H Q I h⟩) hs hs1) fun σ H Q h => lc2_run hts hts1 hv h
end
/-- the inner walk of such a comprehension -/
def Lc2I (g1 : DTG) (tt1 : DTT) (te : DTE) (vs vs1 : List Nat) (e1 : Ev) (ds1 : List D) (e4 : Ev) (acc : List D) (K : List D → Prop) : Prop := ∃ I1 : Nat → List D → Prop, I1 0 acc ∧
  (∀ j d1 acc1, ds1[j]? = some d1 → I1 j acc1 → g1 d1 (wipeE e4 vs1) fun e5 => (wipeE e5 vs1 = wipeE e4 vs1 ∧ noAd e5 vs ∧ wipeE e5 vs = wipeE e1 vs) ∧ tt1 e5 fun b e6 => e6 = e5 ∧ if b = true then te e6 fun d' e7 => e7 = e6 ∧ acc1.length < 1000 ∧ I1 (j + 1) (acc1 ++ [d']) else I1 (j + 1) acc1) ∧ ∀ acc1, I1 ds1.length acc1 → K acc1
def Lc2G (g : DTG) (tt : DTT) (ti1 : DTI) (g1 : DTG) (tt1 : DTT) (te : DTE) (vs vs1 : List Nat) (ds : List D) (e1 : Ev) (Q : Rv → Ev → Prop) : Prop := noAd e1 vs ∧ ∃ I : Nat → List D → Prop, I 0 [] ∧
  (∀ i d acc, ds[i]? = some d → I i acc → g d (wipeE e1 vs) fun e2 => (wipeE e2 vs = wipeE e1 vs ∧ noAd e2 vs) ∧ tt e2 fun b e3 => e3 = e2 ∧ if b = true then ti1 e3 fun ds1 e4 => e4 = e3 ∧ Lc2I g1 tt1 te vs vs1 e1 ds1 e4 acc (I (i + 1)) else I (i + 1) acc) ∧ ∀ acc, I ds.length acc → Q (.new acc) e1
theorem dLc2_eq {ti ti1 : DTI} {g g1 : DTG} {tt tt1 : DTT} {te : DTE} {vs vs1 : List Nat} {env : Ev} {Q : Rv → Ev → Prop} : dLc2 ti g tt ti1 g1 tt1 te vs vs1 env Q = ti env fun ds e1 => Lc2G g tt ti1 g1 tt1 te vs vs1 ds e1 Q := rfl
theorem lc2_in {ti1 : DTI} {g g1 : DTG} {tt tt1 : DTT} {te : DTE} {vs vs1 : List Nat} {ds : List D} {e1 : Ev} {Q : Rv → Ev → Prop} (na : noAd e1 vs) (I : Nat → List D → Prop) (h0 : I 0 [])
    (turn : ∀ i d acc, ds[i]? = some d → I i acc → ∀ N : List D → Prop, (∀ a, I (i + 1) a → N a) → g d (wipeE e1 vs) fun e2 => (wipeE e2 vs = wipeE e1 vs ∧ noAd e2 vs) ∧ tt e2 fun b e3 => e3 = e2 ∧ if b = true then ti1 e3 fun ds1 e4 => e4 = e3 ∧ Lc2I g1 tt1 te vs vs1 e1 ds1 e4 acc N else N acc)
    (fin : ∀ acc, I ds.length acc → Q (.new acc) e1) : Lc2G g tt ti1 g1 tt1 te vs vs1 ds e1 Q := ⟨na, I, h0, fun i d acc hd hi => turn i d acc hd hi (I (i + 1)) fun _ h => h, fin⟩
theorem lc2_inn {g1 : DTG} {tt1 : DTT} {te : DTE} {vs vs1 : List Nat} {e1 e4 : Ev} {ds1 : List D} {acc : List D} {K : List D → Prop} (I1 : Nat → List D → Prop) (h0 : I1 0 acc)
    (turn : ∀ j d1 acc1, ds1[j]? = some d1 → I1 j acc1 → ∀ N : List D → Prop, (∀ a, I1 (j + 1) a → N a) → g1 d1 (wipeE e4 vs1) fun e5 => (wipeE e5 vs1 = wipeE e4 vs1 ∧ noAd e5 vs ∧ wipeE e5 vs = wipeE e1 vs) ∧ tt1 e5 fun b e6 => e6 = e5 ∧ if b = true then te e6 fun d' e7 => e7 = e6 ∧ acc1.length < 1000 ∧ N (acc1 ++ [d']) else N acc1)
    (fin : ∀ a, I1 ds1.length a → K a) : Lc2I g1 tt1 te vs vs1 e1 ds1 e4 acc K := ⟨I1, h0, fun j d acc hd hi => turn j d acc hd hi (I1 (j + 1)) fun _ h => h, fin⟩
theorem oss_t {ds : List D} {k : Rv → Prop} : oSSet (.dat (.tup ds)) k = ∃ ns : List Int, ds = ns.map D.int ∧ ns.length ≤ 60 ∧ ∀ ms : List Int, ms.Pairwise (· < ·) → (∀ x, x ∈ ms ↔ x ∈ ns) → k (.new (ms.map D.int)) := rfl
theorem r_lsq_dl {ds : List D} {k : List D → Prop} : Rv.lsq (.dat (.lst ds)) k = k ds := rfl
theorem r_lsq_n {ds : List D} {k : List D → Prop} : Rv.lsq (.new ds) k = k ds := rfl
theorem r_lsq_o {a : Addr} {ds : List D} {k : List D → Prop} : Rv.lsq (.own a ds) k = k ds := rfl
theorem env0_4 {x1 x2 x3 x4 : Str} {N : List Str} {a b c d : D} : env0 (x1 :: x2 :: x3 :: x4 :: N) [a, b, c, d] = Sl.dat a :: Sl.dat b :: Sl.dat c :: Sl.dat d :: noS N.length := by unfold env0; simp
theorem env0_5 {x1 x2 x3 x4 x5 : Str} {N : List Str} {a b c d e : D} : env0 (x1 :: x2 :: x3 :: x4 :: x5 :: N) [a, b, c, d, e] = Sl.dat a :: Sl.dat b :: Sl.dat c :: Sl.dat d :: Sl.dat e :: noS N.length := by unfold env0; simp
theorem env0_6 {x1 x2 x3 x4 x5 x6 : Str} {N : List Str} {a b c d e f : D} : env0 (x1 :: x2 :: x3 :: x4 :: x5 :: x6 :: N) [a, b, c, d, e, f] = Sl.dat a :: Sl.dat b :: Sl.dat c :: Sl.dat d :: Sl.dat e :: Sl.dat f :: noS N.length := by unfold env0; simp
theorem envB_4 {a b c x y : Str} {N : List Str} {p : Addr} {d e f g : D} : envB p (a :: b :: c :: x :: y :: N) [d, e, f, g] = Sl.bag p :: Sl.dat d :: Sl.dat e :: Sl.dat f :: Sl.dat g :: noS N.length := by unfold envB; simp
end DL
local macro_rules
  | `(tactic| simp_wf) => `(tactic| simp only [DL.dMethK, DL.dStar, DL.dMax, DL.oss_t, DL.oSortP, DL.r_lsq_dl, DL.r_lsq_n, DL.r_lsq_o, DL.env0_4, DL.env0_5, DL.env0_6, DL.envB_4, DL.dXf, DL.dIsX, DL.dCallE, DL.dFld, DL.dProp, DL.dMeth, DL.dMethT, DL.dCallT, DL.dRaise1, DL.dTry, DL.dDeck, DL.oRepr, DL.os_rp, DL.ad_exc, DL.env0E_1, DL.lEnds, DL.isO, DL.noF, Nat.zero_le, Nat.reduceAdd, Nat.reduceLeDiff, Nat.le_refl, DL.oRev, DL.oc_dn, DL.oc_nn, DL.oc_on, DL.oc_dd, DL.oc_nd, DL.dCs, DL.dNew, DL.noAd_c, DL.noAd_n, DL.adAt_0, DL.adAt_s, DL.ad_no, DL.ad_dat, DL.onl_n, DL.onl_o, DL.onl_d, DL.dRaise2, Bool.not_not, Bool.true_and, Bool.and_true, Bool.false_and, Bool.and_false, Bool.true_or, Bool.or_true, Bool.false_or, Bool.or_false, DL.dRet, DL.dNext, DL.dDrop, DL.dSet, DL.dOwn, DL.dAsg, DL.dPar2, DL.dPar3, DL.dSetLc, DL.dVar, DL.dC, DL.dDat, DL.dRel, DL.dNil, DL.dCons, DL.dOp, DL.dUn, DL.dTst, DL.dNot, DL.dAnd, DL.dOr, DL.dAndV, DL.dOrV, DL.dNotV, DL.dIfE, DL.dTup, DL.dLst, DL.dCall, DL.dCallB, DL.dChain, DL.dYes, DL.dApp, DL.dPopAt, DL.dPop, DL.dExt, DL.dIndex, DL.dTru, DL.doNone, DL.dSl, DL.dLstRg, DL.diEn, DL.diZip, DL.diSeq, DL.diRg2, DL.oLen, DL.oList, DL.oTuple, DL.isBag, DL.dEnds, DL.bEnds, DL.ownAt, DL.r_rel_dat, DL.r_rel_new, DL.r_rd_dat, DL.r_rd_new, DL.r_ret_dat, DL.r_ret_new, DL.r_rd_own, DL.r_ret_own, DL.r_seq_dl, DL.r_seq_dt, DL.r_seq_n, DL.r_seq_o, DL.r_items_dl, DL.r_items_dt, DL.r_items_n, DL.r_lis_n, DL.r_lis_o, DL.r_bool, DL.st_d, DL.st_n, DL.st_o, DL.sto_d, DL.sto_n, DL.gt_t, DL.gt_l, DL.gc_c, DL.gc_n, DL.gn_n, DL.oa_ii, DL.oa_ss, DL.oa_tt, DL.oa_nn, DL.oa_on, DL.oi_ii, DL.oj_ii, DL.on_i, DL.ob_i, DL.ot_i, DL.ot_b, DL.os_i, DL.oin_d, DL.ois_d, DL.oix_i, DL.eq_v, DL.ne_v, DL.ds_i, DL.rg1_i, DL.eqOk_int, DL.eqOk_l0, DL.eqv_int, DL.eqv_str, DL.eqv_l0, DL.wip_0, DL.wip_c, List.map_cons, List.map_nil, DL.env0_1, DL.env0_2, DL.env0_3, DL.envB_0, DL.envB_1, DL.envB_2, DL.envB_3, DL.noS_0, DL.noS_s, List.length_cons, List.length_nil, Nat.zero_add, List.getElem?_cons_zero, List.getElem?_cons_succ, List.set_cons_zero, List.set_cons_succ, DL.atI_0, DL.atI_1, DL.atI_2, true_and, and_true, if_true, if_false, Bool.false_eq_true, ite_true, ite_false, Bool.not_true, Bool.not_false, Bool.not_eq_true', decide_eq_true_eq, decide_eq_false_iff_not, ne_eq, not_false_eq_true, reduceCtorEq])
/-! own classes: len(o), str(o), o[i], o == x, o != x; f-strings -/
namespace LL
open PySem PySem.Spec PyProof.Rows L2
section
variable {prog : Program} {w : World} {A : Around} {E : Value → Shared → Prop} {s : Shared} {K : PySem.W.Frag} {x C f : Addr} {ox : Obj} {od : Option Obj} {b tb : Value}
theorem check_own {M : Model} {id owner n : String} {rest : List Value} {Q : Unit → Shared → Prop} (hk : builtinKind id = some .slot) (hs : splitId id = some (owner, n))
    (ha : argsOk id ⟨.ref x :: rest, []⟩) (X : K.In s.heap) (I : PySem.W.InstAt s.heap x ox C od) (ho : PySem.W.subIn K (.ref C) (.type owner) = some true) (hq : Q () s) :
    wpAny M A (checkBuiltinCall id ⟨.ref x :: rest, []⟩) Q E s := by
  simp only [checkBuiltinCall, hk, hs]
  refine wpAny_bind ?_
  unfold isInstance
  refine wpAny_bind (I.type.here ((PySem.W.looks_subIn X ho).here ?_))
  rw [if_neg (by decide)]
  cases hsig : Manifest.signature? id with
  | none => exact wpAny_pure hq
  | some sig =>
    simp only [argsOk, hsig] at ha
    have h2 : Bind.checkArgs id sig ⟨.ref x :: rest, []⟩ = pure () := ha
    show wpAny M A (Bind.checkArgs id sig ⟨.ref x :: rest, []⟩) Q E _
    rw [h2]; exact wpAny_pure hq
theorem ne_own {Q : Value → Shared → Prop} (hu : A.units + 1 < cLine) (X : K.In s.heap) (I : PySem.W.InstAt s.heap x ox C od) (hb : PySem.W.Looks (model prog w) s.heap (typeOf b) tb) (hn : PySem.W.notFirst K C tb = true)
    (hne : PySem.W.findIn K (.ref C) "__ne__" = some (some (.builtin "object.__ne__"))) (hs : PySem.W.findIn K (.ref C) "__eq__" = some (some (.ref f))) (hf : PySem.W.isFn K (.ref f) = true) (ho : PySem.W.subIn K (.ref C) (.type "object") = some true)
    (h : wpAny (model prog w) A.in1 (call (.ref f) [.ref x, b]) (fun v s' => ∃ t, v = .bool t ∧ Q (.bool (!t)) s') E s) : wpAny (model prog w) A (richCompare .NotEq (.ref x) b) Q E s := by
  have hu0 : A.units < cLine := Nat.lt_of_succ_lt hu
  have ent : wpAny (model prog w) A.in1 (Builtin.«object.__ne__» ⟨[.ref x, b], []⟩) (fun r s' => ∃ v, r = .done (.ret v) ∧ (∃ t, v = .bool t) ∧ Q v s') E s := by
    unfold Builtin.«object.__ne__»
    refine wpAny_bind (wpAny_pure ?_)
    refine wpAny_bind (wpAny_cRoomFor hu ?_)
    refine wpAny_bind (PySem.W.ifBound_K X I hs hf (wpAny_mono h (fun v s' hv => ?_) fun _ _ e => e))
    obtain ⟨t, rfl, q⟩ := hv
    refine wpAny_bind (wpAny_pure ?_)
    exact wpAny_pure ⟨_, rfl, ⟨_, rfl⟩, q⟩
  have cal : wpAny (model prog w) A (call (.builtin "object.__ne__") [.ref x, b]) (fun v s' => (∃ t, v = .bool t) ∧ Q v s') E s :=
    wpAny_call (codeAny_call_builtin F.cmp_object.ne.plain F.cmpEntry_ne (check_own F.cmpKind_ne F.cmpSplit_ne (F.cmpArgs_ne _ _) X I ho (wpAny_mono ent (fun r s' hr => by
      obtain ⟨v, rfl, h1, h2⟩ := hr
      exact ⟨h1, h2⟩) fun _ _ e => e)))
  have bnd : ∀ {Q' : Option Value → Shared → Prop}, wpAny (model prog w) A (call (.builtin "object.__ne__") [.ref x, b]) (fun v => Q' (some v)) E s → wpAny (model prog w) A (callSpecialIfBound? (.ref x) (Str.ofString "__ne__") [b]) Q' E s := fun {Q'} hc => by
    simp only [callSpecialIfBound?, bindSpecialIfBound?]
    refine wpAny_holding (wpAny_bind (wpAny_bind (wpAny_bind (I.type.here ((PySem.W.looks_findIn X hne).here ?_)))))
    simp only [F.cmp_object.ne.bind]
    refine wpAny_bind (wpAny_askSetting (wpAny_ite ?_))
    have fin : wpAny (model prog w) A (call (.builtin "object.__ne__") ([.ref x] ++ [b]) >>= fun v => pure (some v)) Q' E s := wpAny_bind (wpAny_mono hc (fun v s' h' => wpAny_pure h') fun _ _ h' => h')
    split
    · exact wpAny_bind (wpAny_pure (wpAny_pure fin))
    · exact wpAny_tryCatch (wpAny_bind (wpAny_pure (wpAny_pure fin)))
  have one : wpAny (model prog w) A (tryCompare (.ref x) (cmpInfo .NotEq).2.1 b) (fun r s' => ∃ v, r = some v ∧ Q v s') E s := by
    unfold tryCompare
    refine wpAny_bind (bnd (wpAny_mono cal (fun v s' hv => ?_) fun _ _ e => e))
    obtain ⟨⟨t, rfl⟩, q⟩ := hv
    exact wpAny_pure ⟨_, rfl, q⟩
  unfold richCompare
  simp only [oneThing_ref]
  refine wpAny_holding (wpAny_bind (wpAny_cRoomFor hu0 ?_))
  refine wpAny_bind (I.type.here (wpAny_bind (hb.here ?_)))
  split
  · rename_i q
    have e : PySem.W.subIn K tb (.ref C) = some false := by
      rcases Bool.or_eq_true_iff.mp hn with e | e
      · rw [beq_iff_eq.mp e] at q; simp at q
      · exact beq_iff_eq.mp e
    refine wpAny_bind ((PySem.W.looks_subIn X e).here ?_)
    simp only [Bool.false_eq_true, if_false]
    refine wpAny_bind (wpAny_mono one (fun r s' z => ?_) fun _ _ e => e)
    obtain ⟨v, rfl, hq⟩ := z
    exact wpAny_pure hq
  · refine wpAny_bind (wpAny_pure ?_)
    simp only [Bool.false_eq_true, if_false]
    refine wpAny_bind (wpAny_mono one (fun r s' z => ?_) fun _ _ e => e)
    obtain ⟨v, rfl, hq⟩ := z
    exact wpAny_pure hq
end
section
variable {X : Cx} {n : Nat} {C f : Addr} {fd : FuncData} {ps : List Str} {sp : Sp}
/-- an own def run below the body, at most some builtins deep -/
theorem own_run {CX : CXT} {E : XK} {A : Around} {pins : List (Addr × Obj)} {σ : L2.St} {H : Hp} {s : Shared} {Q : VK} {us : List Value} {vs : List V} (G : FnOk X.prog X.w X.K X.mg X.base CX n f fd ps sp) (hb : Binds X.K fd ps []) (hr : Room n A) (e0 : Env0 X.prog X.w X.K X.mg X.base A X.stack s H) (hx : PassesAt CX X σ E) (I : Inv X pins σ H s) (r : Vals vs us) (h : sp vs H Q E) :
    wpAny (model X.prog X.w) A (call (.ref f) us) (EP X pins σ Q) X.xe s := by
  have hl : us.length = ps.length := by rw [← r.length]; exact G.len _ _ _ _ h
  have bb := hb s us I.kIn (by simpa using hl)
  rw [List.append_nil] at bb
  refine wpAny_call (codeAny_mono (G.run A X.stack s H ⟨us, []⟩ us vs Q E hr e0 bb r h) fun r s' hq => ?_)
  cases r with
  | error e => exact hx pins H s e s' I hq
  | ok fl =>
    cases fl with
    | ret u => exact I.after hq
    | next => exact False.elim hq
    | brk => exact False.elim hq
    | cont => exact False.elim hq
theorem pass0At {σ : L2.St} : PassesAt CX0 X σ fun _ _ _ => False := fun pins H s e s' I hq => pass0 pins σ H s e s' I hq
def rLenO (C : Addr) (sp : Sp) : List V → Hp → VK → Prop := fun xs H Q => ∃ a dx fs, xs = [V.ref a] ∧ H a = some (.ins C dx fs) ∧ sp [.ref a] H (fun z H' => ∃ i : Int, z = .int i ∧ 0 ≤ i ∧ i < 2 ^ 63 ∧ Q z H') fun _ _ _ => False
theorem call_lenO (G : FnOk X.prog X.w X.K X.mg X.base CX0 n f fd ps sp) (hs : PySem.W.findIn X.K (.ref C) "__len__" = some (some (.ref f))) (hf : PySem.W.isFn X.K (.ref f) = true) (hb : Binds X.K fd ps []) (hr : Room (n + 1) X.A) : CallR X (.builtin "len") (rLenO C sp) := by
  intro pins s σ H xs us Q I r h
  obtain ⟨a, dx, fs, rfl, ha, hsp⟩ := h
  rw [Vals.ref1 r]
  obtain ⟨mA, J, _⟩ := ins_get I.hok ha
  obtain ⟨od, J, _⟩ := J.look
  obtain ⟨m, hF⟩ := I.fr
  refine PySem.W.len_K hF I.ok.mod.kin J hs hf (wpAny_mono (own_run G hb hr.in1 I.env0.in1 pass0At I (us := [.ref a]) (vs := [.ref a]) (.cons rfl .nil) hsp) (fun v s' z => ?_) fun _ _ e => e)
  obtain ⟨z, H', I', rz, i, ez, i0, i1, q⟩ := z
  subst ez
  obtain ⟨t, e⟩ := (show ∃ t, v = Value.int i t from rz)
  subst e
  exact ⟨⟨i0, i1⟩, .int i, H', I'.tok _, ⟨_, rfl⟩, q⟩
def rStrO (C : Addr) (sp : Sp) : List V → Hp → VK → Prop := fun xs H Q => ∃ a dx fs, xs = [V.ref a] ∧ H a = some (.ins C dx fs) ∧ sp [.ref a] H (fun z H' => ∃ i : Str, z = .str i ∧ Q z H') fun _ _ _ => False
theorem call_strO (G : FnOk X.prog X.w X.K X.mg X.base CX0 n f fd ps sp) (hs : PySem.W.findIn X.K (.ref C) "__str__" = some (some (.ref f))) (hf : PySem.W.isFn X.K (.ref f) = true) (hb : Binds X.K fd ps []) (hr : Room (n + 2) X.A) : CallR X (.type "str") (rStrO C sp) := by
  intro pins s σ H xs us Q I r h
  obtain ⟨a, dx, fs, rfl, ha, hsp⟩ := h
  rw [Vals.ref1 r]
  obtain ⟨mA, J, _⟩ := ins_get I.hok ha
  obtain ⟨od, J, _⟩ := J.look
  have hr2 : Room n X.A.in1.in1 := (show Room (n + 1) X.A.in1 from Room.in1 hr).in1
  refine PySem.W.kso_call hr2.units0 I.kIn J hs hf (wpAny_mono (own_run G hb hr2 I.env0.in1.in1 pass0At I (us := [.ref a]) (vs := [.ref a]) (.cons rfl .nil) hsp) (fun v s' z => ?_) fun _ _ e => e)
  obtain ⟨z, H', I', rz, i, ez, q⟩ := z
  subst ez
  obtain ⟨t, e⟩ := (show ∃ t, v = Value.str i t from rz)
  subst e
  exact ⟨.str i, H', I', ⟨_, rfl⟩, q⟩
/-- o[e], which may raise -/
def tIxO (C : Addr) (sp : Sp) (E : L2.St → XK) (ta tb : TE) : TE := fun σ H Q => ta σ H fun x H1 => tb σ H1 fun y H2 => ∃ c dx fs, x = .ref c ∧ H2 c = some (.ins C dx fs) ∧ sp [.ref c, y] H2 Q (E σ)
theorem pe_ixO {CX : CXT} {E : L2.St → XK} {a b : Expr} {ta tb : TE} {pos : Pos} (ha : PE X a ta) (hb : PE X b tb) (G : FnOk X.prog X.w X.K X.mg X.base CX n f fd ps sp) (hs : PySem.W.findIn X.K (.ref C) "__getitem__" = some (some (.ref f))) (hf : PySem.W.isFn X.K (.ref f) = true) (hfn : PySem.W.fnIn X.K f = true) (bd : Binds X.K fd ps []) (hr : Room (n + 1) X.A) (hx : ∀ σ, PassesAt CX X σ (E σ))
    (hsl : ∀ o i, subscripted b true o i = runValue (.builtin "lifetime.subscript" ⟨[o, i], []⟩)) : PE X (.Subscript a b pos) (tIxO C sp E ta tb) := by
  refine ⟨fun pins s σ H Q I h => Subscript_ (binT ha hb I h fun v u s2 x y H2 I2 rx ry q => ?_)⟩
  obtain ⟨c, dx, fs, rfl, hc, q⟩ := q
  cases (show v = Value.ref c from rx)
  obtain ⟨mA, J, _⟩ := ins_get I2.hok hc
  obtain ⟨od, J, _⟩ := J.look
  obtain ⟨m, hF⟩ := I2.fr
  exact PySem.W.sub_K hF I2.ok.mod.kin J hs hfn hf (own_run G bd hr.in1 I2.env0.in1 (hx σ) I2 (us := [.ref c, u]) (vs := [.ref c, y]) (.cons rfl (.cons ry .nil)) q) (hsl _ _)
/-- o == x, o != x by the class's own ==, x of any kind -/
def rCmpO (K : PySem.W.Frag) (C : Addr) (neg : Bool) (sp : Sp) : R2 := fun x y H Q => ∃ a dx fs t, x = .ref a ∧ H a = some (.ins C dx fs) ∧ TyX K H y t ∧ PySem.W.notFirst K C t = true ∧ sp [.ref a, y] H (fun v H' => ∃ b, v = .bl b ∧ Q (.bl (if neg then !b else b)) H') fun _ _ _ => False
theorem op_eqA (G : FnOk X.prog X.w X.K X.mg X.base CX0 n f fd ps sp) (hs : PySem.W.findIn X.K (.ref C) "__eq__" = some (some (.ref f))) (hf : PySem.W.isFn X.K (.ref f) = true) (hb : Binds X.K fd ps []) (hr : Room n X.A) : OpR X (compareOp .Eq) (rCmpO X.K C false sp) := by
  intro pins s σ H x y v u Q I rx ry h
  obtain ⟨a, dx, fs, t, rfl, ha, ty, hn, hsp⟩ := h
  cases (show v = Value.ref a from rx)
  obtain ⟨P, kx, hp, _⟩ := kit_of I ry ty
  obtain ⟨mA, J, _⟩ := ins_get I.hok ha
  obtain ⟨od, J, _⟩ := J.look
  obtain ⟨m, hF⟩ := I.fr
  show wpAny (model X.prog X.w) X.A (richCompare .Eq (.ref a) u) (EP X pins σ Q) X.xe s
  refine PySem.W.cmp_K (op := .Eq) hr.units0 hF I.ok.mod.kin J (kx.ty _ _ I.kIn hp) hn hs hf (wpAny_mono (own_run G hb hr I.env0 pass0At I (us := [.ref a, u]) (vs := [.ref a, y]) (.cons rfl (.cons ry .nil)) hsp) (fun w s' z => ?_) fun _ _ e => e)
  obtain ⟨z, H', I', rz, b, ez, q⟩ := z
  subst ez
  cases rz
  exact ⟨.bl b, H', I', rfl, q⟩
theorem op_neA (G : FnOk X.prog X.w X.K X.mg X.base CX0 n f fd ps sp) (hne : PySem.W.findIn X.K (.ref C) "__ne__" = some (some (.builtin "object.__ne__"))) (ho : PySem.W.subIn X.K (.ref C) (.type "object") = some true) (hs : PySem.W.findIn X.K (.ref C) "__eq__" = some (some (.ref f))) (hf : PySem.W.isFn X.K (.ref f) = true) (hb : Binds X.K fd ps []) (hr : Room (n + 1) X.A) : OpR X (compareOp .NotEq) (rCmpO X.K C true sp) := by
  intro pins s σ H x y v u Q I rx ry h
  obtain ⟨a, dx, fs, t, rfl, ha, ty, hn, hsp⟩ := h
  cases (show v = Value.ref a from rx)
  obtain ⟨P, kx, hp, _⟩ := kit_of I ry ty
  obtain ⟨mA, J, _⟩ := ins_get I.hok ha
  obtain ⟨od, J, _⟩ := J.look
  show wpAny (model X.prog X.w) X.A (richCompare .NotEq (.ref a) u) (EP X pins σ Q) X.xe s
  refine ne_own (by have := hr.un; omega) I.kIn J (kx.ty _ _ I.kIn hp) hn hne hs hf ho (wpAny_mono (own_run G hb hr.in1 I.env0.in1 pass0At I (us := [.ref a, u]) (vs := [.ref a, y]) (.cons rfl (.cons ry .nil)) hsp) (fun w s' z => ?_) fun _ _ e => e)
  obtain ⟨z, H', I', rz, b, ez, q⟩ := z
  subst ez
  cases rz
  exact ⟨b, rfl, .bl (!b), H', I', rfl, q⟩
end
end LL
namespace DL
open PySem PySem.Spec PyProof.Rows L2 LL
section
variable {X : Cx} {F : Fm} {a b e : Expr} {pos p : Pos} {ta tb : DTV} {te tf : DTE} {C : Addr} {k j : Nat} {df : DF}
/-- the special methods of a class -/
structure SpT (P : Program) (w : World) (K : PySem.W.Frag) (mg : Str → Option Value) (base : Heap) (CX : CXT) (k : Nat) (C : Addr) (m : Str) (n : Nat) (df : DF) : Prop where
  ex : ∃ f fd ps, Meth K C m f ∧ PySem.W.fnIn K f = true ∧ FnOk P w K mg base CX k f fd ps (spD K (n + 1) df) ∧ Binds K fd ps []
def dLenO (C : Addr) (df : DF) (t : DTE) : DTE := fun env Q => t env fun d e1 => isO C d ∧ df [d] (fun r => ∃ i : Int, r = .int i ∧ 0 ≤ i ∧ i < 2 ^ 63 ∧ Q (.int i) e1) fun _ => False
theorem de_lenO (T : MtT X.prog X.w X.K X.mg X.base CX0 k C "__len__" 0 df) (hr : Room j X.A) (hm : X.mg "len" = none) (h : DE X F e te) (hj : k + 1 ≤ j := by decide) (hg : Gl X "len" := by rfl) (he : starEach [e] X.env = (false, eval e X.env) :: starEach [] X.env := by rfl) (hpl : (backTo pos (starEach [] X.env)).any (·.1) = false := by rfl) :
    DE X F (.Call (.Name "len" p) [e] [] pos) (dLenO C df te) := by
  obtain ⟨f, fd, ps, hmt, G, bd⟩ := T.ex
  refine imp (pe_callB (call_lenO G hmt.at_ hmt.fn bd (hr.mono hj)) hg hm (by decide +kernel) (pa_cons h pa_nil he) (by decide) (by decide) he hpl) fun σ H Q ⟨env, os, r, Q', z, fin⟩ => ⟨env, os, r, _, z, fun d e1 ⟨io, q⟩ v os1 H1 g1 hd => ?_⟩
  obtain ⟨a, dx, ns, vs, ds, rfl, rfl, h1, h2, h3⟩ := hd.ins io
  refine ⟨a, dx, _, rfl, (hid_of h1).1, [.obj C ns ds], os1, rfl, g1.r.here, .cons hd .nil, _, _, q, ?_, fun er z => z.elim⟩
  rintro d ⟨i, rfl, i0, i1, q⟩ v H' s dv
  cases dv
  exact ⟨i, rfl, i0, i1, fin _ _ q _ os1 H' (g1.trans r (Go.same g1.r s)) (.int i)⟩
def dStrO (C : Addr) (df : DF) (t : DTE) : DTE := fun env Q => t env fun d e1 => isO C d ∧ df [d] (fun r => ∃ i : Str, r = .str i ∧ Q (.str i) e1) fun _ => False
theorem de_strO (T : MtT X.prog X.w X.K X.mg X.base CX0 k C "__str__" 0 df) (hr : Room j X.A) (hm : X.mg "str" = none) (h : DE X F e te) (hj : k + 2 ≤ j := by decide) (hg : Gl X "str" := by rfl) (he : starEach [e] X.env = (false, eval e X.env) :: starEach [] X.env := by rfl) (hpl : (backTo pos (starEach [] X.env)).any (·.1) = false := by rfl) :
    DE X F (.Call (.Name "str" p) [e] [] pos) (dStrO C df te) := by
  obtain ⟨f, fd, ps, hmt, G, bd⟩ := T.ex
  refine imp (pe_callTy (call_strO G hmt.at_ hmt.fn bd (hr.mono hj)) hg hm (by decide +kernel) (pa_cons h pa_nil he) (by decide) (by decide) he hpl) fun σ H Q ⟨env, os, r, Q', z, fin⟩ => ⟨env, os, r, _, z, fun d e1 ⟨io, q⟩ v os1 H1 g1 hd => ?_⟩
  obtain ⟨a, dx, ns, vs, ds, rfl, rfl, h1, h2, h3⟩ := hd.ins io
  refine ⟨a, dx, _, rfl, (hid_of h1).1, [.obj C ns ds], os1, rfl, g1.r.here, .cons hd .nil, _, _, q, ?_, fun er z => z.elim⟩
  rintro d ⟨i, rfl, q⟩ v H' s dv
  cases dv
  exact ⟨i, rfl, fin _ _ q _ os1 H' (g1.trans r (Go.same g1.r s)) (.str i)⟩
/-! o[e] -/
def dIxO (C : Addr) (df : DF) (xr : Er → Ev → Prop) (t u : DTE) : DTE := fun env Q => t env fun d e1 => u e1 fun d' e2 => isO C d ∧ df [d, d'] (fun r => Q r e2) fun e => xr e e2
theorem ixO_run {K : PySem.W.Frag} {C : Addr} {df : DF} {E : L2.St → XK} {xr : Er → Ev → Prop} {t u : DTE} {σ : L2.St} {H : Hp} {Q : VK} (hE : ∀ er e2 os2 H2, xr er e2 → R K F os2 H2 σ e2 → ErR K os2 [] H2 (E σ) er) (h : upE K F (dIxO C df xr t u) σ H Q) : tIxO C (spD K 2 df) E (upE K F t) (upE K F u) σ H Q := by
  obtain ⟨env, os, r, Q', z, fin⟩ := h
  refine ⟨env, os, r, _, z, fun d e1 z v os1 H1 g1 hd => ⟨e1, os1, g1.r, _, z, fun d' e2 ⟨io, q⟩ v' os2 H2 g2 hd' => ?_⟩⟩
  obtain ⟨a, dx, ns, vs, ds, rfl, rfl, h1, h2, h3⟩ := (hd.up (g2.hs g1.r)).ins io
  exact ⟨a, dx, _, rfl, (hid_of h1).1, [.obj C ns ds, d'], os2, rfl, g2.r.here, .cons (hd.up (g2.hs g1.r)) (.cons hd' .nil), _, _, q, fun d q v H' s w => fin _ _ q v os2 H' ((g1.trans r g2).trans r (Go.same g2.r s)) w, fun er q => hE er e2 os2 H2 q g2.r⟩
theorem de_ixT {W : WX} {xr : Er → Ev → Prop} (T : SpT X.prog X.w X.K X.mg X.base (L2N.CX X.prog X.w) k C "__getitem__" 1 df) (hr : Room j X.A) (tk : L2N.Takes X W) (hE : ExW X.K F W xr) (ha : DE X F a te) (hb : DE X F b tf) (hj : k + 1 ≤ j := by decide) (hsl : ∀ o i, subscripted b true o i = runValue (.builtin "lifetime.subscript" ⟨[o, i], []⟩) := by exact fun _ _ => rfl) :
    DE X F (.Subscript a b pos) (dIxO C df xr te tf) := by
  obtain ⟨f, fd, ps, hm, hfn, G, bd⟩ := T.ex
  exact imp (pe_ixO ha hb G hm.at_ hm.fn hfn bd (hr.mono hj) (fun σ => L2N.passAt tk σ) hsl) fun σ H Q h => ixO_run (fun er e2 os2 H2 q r => hE er e2 q σ os2 H2 r) h
theorem de_ixN {E : XK} {xr : Er → Prop} (T : SpT X.prog X.w X.K X.mg X.base (L2N.CX X.prog X.w) k C "__getitem__" 1 df) (hr : Room j X.A) (tk : L2N.Takes X (fun cls d _ H => E cls d H)) (hE : ExR X.K F E xr) (ha : DE X F a te) (hb : DE X F b tf) (hj : k + 1 ≤ j := by decide) (hsl : ∀ o i, subscripted b true o i = runValue (.builtin "lifetime.subscript" ⟨[o, i], []⟩) := by exact fun _ _ => rfl) :
    DE X F (.Subscript a b pos) (dIxO C df (fun e _ => xr e) te tf) := by
  obtain ⟨f, fd, ps, hm, hfn, G, bd⟩ := T.ex
  have hp : Passes (L2N.CX X.prog X.w) X E := L2N.passes_call tk fun _ _ _ _ h => h
  exact imp (pe_ixO (E := fun _ => E) ha hb G hm.at_ hm.fn hfn bd (hr.mono hj) (fun σ pins H s e s' I hq => hp pins σ H s e s' I hq) hsl) fun σ H Q h => ixO_run (fun er e2 os2 H2 q r => hE er q σ e2 os2 H2 r) h
theorem de_ixZ (T : SpT X.prog X.w X.K X.mg X.base (L2N.CX X.prog X.w) k C "__getitem__" 1 df) (hr : Room j X.A) (ha : DE X F a te) (hb : DE X F b tf) (hj : k + 1 ≤ j := by decide) (hsl : ∀ o i, subscripted b true o i = runValue (.builtin "lifetime.subscript" ⟨[o, i], []⟩) := by exact fun _ _ => rfl) :
    DE X F (.Subscript a b pos) (dIxO C df (fun _ _ => False) te tf) := by
  obtain ⟨f, fd, ps, hm, hfn, G, bd⟩ := T.ex
  have pN : Passes (L2N.CX X.prog X.w) X fun _ _ _ => False := fun _ _ _ _ _ _ _ h => by
    obtain ⟨_, _, _, _, _, _, _, _, _, _, _, _, z⟩ := h
    exact z.elim
  exact imp (pe_ixO (E := fun _ _ _ _ => False) ha hb G hm.at_ hm.fn hfn bd (hr.mono hj) (fun σ pins H s e s' I hq => pN pins σ H s e s' I hq) hsl) fun σ H Q h => ixO_run (fun er e2 os2 H2 q r => q.elim) h
/-! o == x, o != x -/
/-- the class's own == asked first, whatever stands on the other side -/
structure NfC (K : PySem.W.Frag) (C : Addr) : Prop where
  no : ∀ d n, tyD d = some n → PySem.W.notFirst K C (.type n) = true
def oCmp (C : Addr) (neg : Bool) (df : DF) : Rv → Rv → (Rv → Prop) → Prop
  | .dat (.obj C1 ns ds), .dat d, q => C1 = C ∧ (match d with | .obj C2 _ _ => C2 = C | _ => True) ∧ df [.obj C1 ns ds, d] (fun r => ∃ b, r = .bl b ∧ q (.dat (.bl (if neg then !b else b)))) fun _ => False
  | _, _, _ => False
theorem notFirst_self {K : PySem.W.Frag} {C : Addr} : PySem.W.notFirst K C (.ref C) = true := by simp [PySem.W.notFirst]
theorem l_cmp {K : PySem.W.Frag} {C : Addr} {neg : Bool} {df : DF} (ic : C8.InsC K C) (nf : NfC K C) : Lift2 K (rCmpO K C neg (spD K 2 df)) (oCmp C neg df) := fun F os env σ H v w ra rb Q k r ha hb h q => by
  match ra, rb, h, ha, hb with
  | .dat (.obj C1 ns ds), .dat d, ⟨e1, e2, hh⟩, ha, hb =>
    subst e1
    have ha : Dr K (hid os H) v (.obj _ ns ds) := ha
    have hb : Dr K (hid os H) w d := hb
    obtain ⟨a, dx, n1, vs, d1, e1, e3, h1, h2, h3⟩ := ha.ins (show isO _ (.obj _ ns ds) from rfl)
    subst e1
    have ty : ∃ t, TyX K H w t ∧ PySem.W.notFirst K C1 t = true := by
      cases hd : tyD d with
      | some n => exact ⟨_, (hb.up hid_same).ty hd, nf.no _ _ hd⟩
      | none =>
        cases d with
        | obj C2 ns2 ds2 =>
          have e2 : C2 = C1 := e2
          subst e2
          obtain ⟨b, dy, n2, us, d2, e4, e5, g1, g2, g3⟩ := hb.ins (show isO _ (.obj _ ns2 ds2) from rfl)
          subst e4
          exact ⟨_, .base (TyOf.ins (hid_of g1).1 ic.cl ic.ha ic.hn ic.htk ic.hm), notFirst_self⟩
        | _ => cases hd
    obtain ⟨t, t1, t2⟩ := ty
    refine ⟨a, dx, _, t, rfl, (hid_of h1).1, t1, t2, [_, _], os, rfl, r.here, .cons ha (.cons hb .nil), _, _, hh, ?_, fun _ z => z.elim⟩
    rintro d ⟨b, rfl, z⟩ v' H' s dv
    cases dv
    exact ⟨b, rfl, q _ _ os H' z (Go.same r s) (Dr.bl _) trivial⟩
theorem deqA (T : MtT X.prog X.w X.K X.mg X.base CX0 k C "__eq__" 1 df) (ic : C8.InsC X.K C) (nf : NfC X.K C) (hr : Room j X.A) (ha : DV X F a ta) (hb : DV X F b tb) (hj : k ≤ j := by decide) : DV X F (.Compare a [.Eq] [b] pos) (dOp (oCmp C false df) ta tb) := by
  obtain ⟨f, fd, ps, hm, G, bd⟩ := T.ex
  exact dv_cmp (op_eqA G hm.at_ hm.fn bd (hr.mono hj)) (l_cmp ic nf) ha hb (nomark _)
theorem dneA (T : MtT X.prog X.w X.K X.mg X.base CX0 k C "__eq__" 1 df) (ic : C8.InsC X.K C) (nf : NfC X.K C) (hne : PySem.W.findIn X.K (.ref C) "__ne__" = some (some (.builtin "object.__ne__"))) (ho : PySem.W.subIn X.K (.ref C) (.type "object") = some true) (hr : Room j X.A) (ha : DV X F a ta) (hb : DV X F b tb) (hj : k + 1 ≤ j := by decide) : DV X F (.Compare a [.NotEq] [b] pos) (dOp (oCmp C true df) ta tb) := by
  obtain ⟨f, fd, ps, hm, G, bd⟩ := T.ex
  exact dv_cmp (op_neA G hne ho hm.at_ hm.fn bd (hr.mono hj)) (l_cmp ic nf) ha hb (nomark _)
theorem nfc_mk {K : PySem.W.Frag} {C : Addr} (h1 : PySem.W.notFirst K C (.type "NoneType") = true) (h2 : PySem.W.notFirst K C (.type "bool") = true) (h3 : PySem.W.notFirst K C (.type "int") = true) (h4 : PySem.W.notFirst K C (.type "str") = true) (h5 : PySem.W.notFirst K C (.type "list") = true) (h6 : PySem.W.notFirst K C (.type "tuple") = true) (h7 : PySem.W.notFirst K C (.type "dict") = true) : NfC K C := ⟨fun d n z => by
  cases d <;> first | (cases z; assumption) | cases z⟩
/-! f-strings -/
abbrev DTJ := Ev → (Str → Ev → Prop) → Prop
inductive DJ (X : Cx) (F : Fm) : List Expr → List DTE → Prop where
  | nil : DJ X F [] []
  | cons {e : Expr} {t : DTE} {es : List Expr} {ts : List DTE} (h : DE X F e t) (r : DJ X F es ts) : DJ X F (e :: es) (t :: ts)
def dJs : List DTE → Str → Ev → (Str → Ev → Prop) → Prop
  | [], acc, env, Q => Q acc env
  | t :: ts, acc, env, Q => t env fun d e1 => match d with
    | .str y => (acc ++ y).length ≤ 1000 ∧ dJs ts (acc ++ y) e1 Q
    | _ => False
theorem DJ.pj {es : List Expr} {ts : List DTE} (h : DJ X F es ts) : PJ X es (ts.map (upE X.K F)) := by
  induction h with
  | nil => exact .nil
  | cons h r ih => exact .cons h ih
theorem js_run {K : PySem.W.Frag} {σ : L2.St} : ∀ {ts : List DTE} {acc : Str} {env : Ev} {os : List Addr} {H : Hp} {Q' : Str → Ev → Prop} {Q : Str → Hp → Prop}, R K F os H σ env → dJs ts acc env Q' → (∀ out e1, Q' out e1 → ∀ os1 H1, Go K F σ os H env os1 H1 e1 → Q out H1) → tJs (ts.map (upE K F)) acc σ H Q
  | [], acc, env, os, H, Q', Q, r, h, w => w _ _ h os H (Go.refl r)
  | t :: ts, acc, env, os, H, Q', Q, r, h, w => by
    refine ⟨env, os, r, _, h, fun d e1 q v os1 H1 g1 hd => ?_⟩
    cases d with
    | str y =>
      obtain ⟨l, q⟩ := q
      cases hd
      exact ⟨y, rfl, Nat.le_of_lt (small1000 l), js_run g1.r q fun out e2 q2 os2 H2 g2 => w _ _ q2 os2 H2 (g1.trans r g2)⟩
    | _ => exact q.elim
def dJoin (ts : List DTE) : DTE := fun env Q => dJs ts Str.empty env fun out e1 => Q (.str out) e1
theorem de_joined {v1 v2 : Expr} {rest : List Expr} {ts : List DTE} (h : DJ X F (v1 :: v2 :: rest) ts) : DE X F (.JoinedStr (v1 :: v2 :: rest) pos) (dJoin ts) :=
  imp (pe_joined h.pj) fun σ H Q ⟨env, os, r, Q', z, fin⟩ => js_run r z fun out e1 q os1 H1 g1 => fin _ _ q _ os1 H1 g1 (.str _)
def dFmt (t : DTE) : DTE := fun env Q => t env fun d e1 => match d with
  | .int i => i.natAbs.log2 < 1920 ∧ Q (.str (toString i : String)) e1
  | .str y => y.length ≤ 1000 ∧ Q (.str y) e1
  | _ => False
theorem de_fmt {e : Expr} {t : DTE} (h : DE X F e t) : DE X F (.FormattedValue e (-1) none pos) (dFmt t) := imp (pe_fmt h) fun σ H Q ⟨env, os, r, Q', z, fin⟩ => ⟨env, os, r, _, z, fun d e1 q v os1 H1 g1 hd => by
  cases d with
  | int i => cases hd; exact .inr ⟨i, rfl, q.1, fin _ _ q.2 _ os1 H1 g1 (.str _)⟩
  | str y => cases hd; exact .inl ⟨y, rfl, Nat.le_of_lt (small1000 q.1), fin _ _ q.2 _ os1 H1 g1 (.str _)⟩
  | _ => exact q.elim⟩
end
theorem ocmp_d {C C1 : Addr} {neg : Bool} {df : DF} {ns : List Str} {ds : List D} {d : D} {q : Rv → Prop} : oCmp C neg df (.dat (.obj C1 ns ds)) (.dat d) q = (C1 = C ∧ (match d with | .obj C2 _ _ => C2 = C | _ => True) ∧ df [.obj C1 ns ds, d] (fun r => ∃ b, r = .bl b ∧ q (.dat (.bl (if neg then !b else b)))) fun _ => False) := rfl
end DL
local macro_rules
  | `(tactic| simp_wf) => `(tactic| simp only [DL.dLenO, DL.dStrO, DL.dIxO, DL.dJoin, DL.dJs, DL.dFmt, DL.ocmp_d, DL.dMethK, DL.dStar, DL.dMax, DL.oss_t, DL.oSortP, DL.r_lsq_dl, DL.r_lsq_n, DL.r_lsq_o, DL.env0_4, DL.env0_5, DL.env0_6, DL.envB_4, DL.dXf, DL.dIsX, DL.dCallE, DL.dFld, DL.dProp, DL.dMeth, DL.dMethT, DL.dCallT, DL.dRaise1, DL.dTry, DL.dDeck, DL.oRepr, DL.os_rp, DL.ad_exc, DL.env0E_1, DL.lEnds, DL.isO, DL.noF, Nat.zero_le, Nat.reduceAdd, Nat.reduceLeDiff, Nat.le_refl, DL.oRev, DL.oc_dn, DL.oc_nn, DL.oc_on, DL.oc_dd, DL.oc_nd, DL.dCs, DL.dNew, DL.noAd_c, DL.noAd_n, DL.adAt_0, DL.adAt_s, DL.ad_no, DL.ad_dat, DL.onl_n, DL.onl_o, DL.onl_d, DL.dRaise2, Bool.not_not, Bool.true_and, Bool.and_true, Bool.false_and, Bool.and_false, Bool.true_or, Bool.or_true, Bool.false_or, Bool.or_false, DL.dRet, DL.dNext, DL.dDrop, DL.dSet, DL.dOwn, DL.dAsg, DL.dPar2, DL.dPar3, DL.dSetLc, DL.dVar, DL.dC, DL.dDat, DL.dRel, DL.dNil, DL.dCons, DL.dOp, DL.dUn, DL.dTst, DL.dNot, DL.dAnd, DL.dOr, DL.dAndV, DL.dOrV, DL.dNotV, DL.dIfE, DL.dTup, DL.dLst, DL.dCall, DL.dCallB, DL.dChain, DL.dYes, DL.dApp, DL.dPopAt, DL.dPop, DL.dExt, DL.dIndex, DL.dTru, DL.doNone, DL.dSl, DL.dLstRg, DL.diEn, DL.diZip, DL.diSeq, DL.diRg2, DL.oLen, DL.oList, DL.oTuple, DL.isBag, DL.dEnds, DL.bEnds, DL.ownAt, DL.r_rel_dat, DL.r_rel_new, DL.r_rd_dat, DL.r_rd_new, DL.r_ret_dat, DL.r_ret_new, DL.r_rd_own, DL.r_ret_own, DL.r_seq_dl, DL.r_seq_dt, DL.r_seq_n, DL.r_seq_o, DL.r_items_dl, DL.r_items_dt, DL.r_items_n, DL.r_lis_n, DL.r_lis_o, DL.r_bool, DL.st_d, DL.st_n, DL.st_o, DL.sto_d, DL.sto_n, DL.gt_t, DL.gt_l, DL.gc_c, DL.gc_n, DL.gn_n, DL.oa_ii, DL.oa_ss, DL.oa_tt, DL.oa_nn, DL.oa_on, DL.oi_ii, DL.oj_ii, DL.on_i, DL.ob_i, DL.ot_i, DL.ot_b, DL.os_i, DL.oin_d, DL.ois_d, DL.oix_i, DL.eq_v, DL.ne_v, DL.ds_i, DL.rg1_i, DL.eqOk_int, DL.eqOk_l0, DL.eqv_int, DL.eqv_str, DL.eqv_l0, DL.wip_0, DL.wip_c, List.map_cons, List.map_nil, DL.env0_1, DL.env0_2, DL.env0_3, DL.envB_0, DL.envB_1, DL.envB_2, DL.envB_3, DL.noS_0, DL.noS_s, List.length_cons, List.length_nil, Nat.zero_add, List.getElem?_cons_zero, List.getElem?_cons_succ, List.set_cons_zero, List.set_cons_succ, DL.atI_0, DL.atI_1, DL.atI_2, true_and, and_true, if_true, if_false, Bool.false_eq_true, ite_true, ite_false, Bool.not_true, Bool.not_false, Bool.not_eq_true', decide_eq_true_eq, decide_eq_false_iff_not, ne_eq, not_false_eq_true, reduceCtorEq])
namespace K01
/-! the mathematics of fractions -/
def sg (b : Int) : Int := if 0 < b then 1 else -1
def lo (a b : Int) : Int × Int := (sg b * a / (Int.gcd a b : Int), sg b * b / (Int.gcd a b : Int))
theorem gcd_step (a b : Int) : Int.gcd b (a.fmod b) = Int.gcd a b := by
  have e : a.fmod b + b * a.fdiv b = a := by rw [Int.fmod_def]; omega
  apply Nat.dvd_antisymm
  · apply Int.natCast_dvd_natCast.mp
    apply Int.dvd_coe_gcd
    · rw [← e]
      exact Int.dvd_add (by rw [e]; exact Int.gcd_dvd_right ..) (Int.dvd_trans (by rw [e]; exact Int.gcd_dvd_left ..) (Int.dvd_mul_right ..))
    · exact Int.gcd_dvd_left ..
  · apply Int.natCast_dvd_natCast.mp
    apply Int.dvd_coe_gcd
    · exact Int.gcd_dvd_right ..
    · have h : a.fmod b = a - b * a.fdiv b := by rw [Int.fmod_def]
      rw [h]
      exact Int.dvd_sub (Int.gcd_dvd_left ..) (Int.dvd_trans (Int.gcd_dvd_right ..) (Int.dvd_mul_right ..))
theorem fmod_small (a b : Int) (h : b ≠ 0) : (a.fmod b).natAbs < b.natAbs := by
  rw [Int.fmod_eq_emod]
  have h1 := Int.emod_nonneg a h
  have h2 : a % b < (b.natAbs : Int) := by
    by_cases c : 0 < b
    · have := Int.emod_lt_of_pos a c
      omega
    · have := Int.emod_lt_of_pos a (b := -b) (by omega)
      rw [Int.emod_neg] at this
      omega
  split
  · rename_i c
    omega
  · rename_i c
    have c1 : ¬ 0 ≤ b := fun z => c (.inl z)
    have c2 : ¬ b ∣ a := fun z => c (.inr z)
    have c3 : a % b ≠ 0 := fun z => c2 (Int.dvd_of_emod_eq_zero z)
    omega
theorem gcd_pos (a b : Int) (h : b ≠ 0) : 0 < (Int.gcd a b : Int) := by
  have : Int.gcd a b ≠ 0 := fun z => h (Int.gcd_eq_zero_iff.mp z).2
  omega
theorem gcd_le (a b : Int) (h : b ≠ 0) : Int.gcd a b ≤ b.natAbs := Nat.le_of_dvd (by omega) (Int.natAbs_dvd_natAbs.mpr (Int.gcd_dvd_right a b) |> fun z => by simpa using z)
theorem div_neg {a g : Int} (hg : 0 < g) (d : g ∣ a) : a.fdiv (-g) = -1 * a / g := by
  obtain ⟨k, rfl⟩ := d
  have e1 : g * k = (-g) * (-k) := by rw [Int.neg_mul_neg]
  have e2 : -1 * (g * k) = g * (-k) := by rw [Int.mul_neg, Int.neg_mul, Int.one_mul]
  rw [e2, Int.mul_ediv_cancel_left _ (by omega), e1, Int.mul_fdiv_cancel_left _ (by omega)]
theorem lo_neg {a b : Int} (h : b < 0) : (a.fdiv (-(Int.gcd a b : Int)), b.fdiv (-(Int.gcd a b : Int))) = lo a b := by
  have g := gcd_pos a b (by omega)
  unfold lo sg
  rw [if_neg (by omega), div_neg g (Int.gcd_dvd_left ..), div_neg g (Int.gcd_dvd_right ..)]
theorem lo_pos {a b : Int} (h : 0 < b) : (a.fdiv (Int.gcd a b : Int), b.fdiv (Int.gcd a b : Int)) = lo a b := by
  have g := gcd_pos a b (by omega)
  unfold lo sg
  rw [if_pos h, Int.one_mul, Int.one_mul, Int.fdiv_eq_ediv_of_nonneg _ (by omega), Int.fdiv_eq_ediv_of_nonneg _ (by omega)]
theorem lo_self {a b : Int} (h : 1 ≤ b) : lo a b = (a, b) ↔ Int.gcd a b = 1 := by
  have g := gcd_pos a b (by omega)
  unfold lo sg
  rw [if_pos (by omega), Int.one_mul, Int.one_mul]
  constructor
  · intro e
    have e2 : b / (Int.gcd a b : Int) = b := congrArg Prod.snd e
    by_cases z : Int.gcd a b = 1
    · exact z
    · exfalso
      have z2 : (2 : Int) ≤ (Int.gcd a b : Int) := by omega
      have := Int.ediv_lt_of_lt_mul (a := b) (b := b) (c := (Int.gcd a b : Int)) g (by
        have : b * 2 ≤ b * (Int.gcd a b : Int) := Int.mul_le_mul_of_nonneg_left z2 (by omega)
        omega)
      omega
  · intro e
    rw [e]
    show (a / ((1 : Nat) : Int), b / ((1 : Nat) : Int)) = (a, b)
    rw [Int.natCast_one, Int.ediv_one, Int.ediv_one]
theorem ediv_abs {x g : Int} (hg : 0 < g) (d : g ∣ x) : (x / g).natAbs ≤ x.natAbs := by
  obtain ⟨k, rfl⟩ := d
  rw [Int.mul_ediv_cancel_left _ (by omega), Int.natAbs_mul]
  exact Nat.le_mul_of_pos_left _ (by omega)
theorem sg_abs (b a : Int) : (sg b * a).natAbs = a.natAbs := by
  unfold sg
  split <;> simp
theorem sg_dvd {g a : Int} (b : Int) (d : g ∣ a) : g ∣ sg b * a := Int.dvd_trans d (Int.dvd_mul_left ..)
theorem lo_abs {a b : Int} (h : b ≠ 0) : (lo a b).1.natAbs ≤ a.natAbs ∧ (lo a b).2.natAbs ≤ b.natAbs := by
  have g := gcd_pos a b h
  have h1 := ediv_abs g (sg_dvd b (Int.gcd_dvd_left a b))
  have h2 := ediv_abs g (sg_dvd b (Int.gcd_dvd_right a b))
  rw [sg_abs] at h1 h2
  exact ⟨h1, h2⟩
theorem lo_bottom {a b : Int} (h : b ≠ 0) : 0 < (lo a b).2 := by
  have g := gcd_pos a b h
  have p : 0 < sg b * b := by
    unfold sg
    split
    · omega
    · omega
  obtain ⟨k, e⟩ := sg_dvd b (Int.gcd_dvd_right a b)
  show 0 < sg b * b / (Int.gcd a b : Int)
  rw [e, Int.mul_ediv_cancel_left _ (by omega)]
  rw [e] at p
  by_cases z : 0 < k
  · exact z
  · exfalso
    have : (Int.gcd a b : Int) * k ≤ 0 := Int.mul_nonpos_of_nonneg_of_nonpos (by omega) (by omega)
    omega
end K01
namespace KK
open PySem PySem.Spec PyProof.Rows L2 LL DL K01
/-- numbers of at most two hundred bits -/
abbrev Bd (n : Int) : Prop := n.natAbs < 2 ^ 200
theorem bd_log {n : Int} (h : Bd n) : n.natAbs.log2 < 9000 := by
  have : n.natAbs.log2 < 200 := PySem.Flt.log2_lt_of (by decide) h
  omega
theorem bd_mul {a b : Int} (h : Bd a) (g : Bd b) : CMulW a b := wide_mul h g (by decide) (by decide) (by decide)
def frD (p : Int × Int) : D := .tup [.int p.1, .int p.2]
def fWhole : DF := fun ds k _ => match ds with
  | [d] => noObj d = true ∧ k (.bl (isID d))
  | _ => False
def isNum (m : Int) : D → Bool
  | .int i => decide (0 ≤ i) && decide (i < m)
  | _ => false
def fIsNum : DF := fun ds k _ => match ds with
  | [d, .int m] => noObj d = true ∧ k (.bl (isNum m d))
  | _ => False
def fLess : DF := fun ds k _ => match ds with
  | [.tup [.int a, .int b], .tup [.int c, .int d]] => (Bd a ∧ Bd b ∧ Bd c ∧ Bd d) ∧ k (.bl (decide (a * d < c * b)))
  | _ => False
def fCd : DF := fun ds k _ => match ds with
  | [.int a, .int b] => k (.int (Int.gcd a b))
  | _ => False
def fFrac : DF := fun ds k _ => match ds with
  | [.int a, .int b] => (b ≠ 0 ∧ Bd a ∧ Bd b) ∧ k (frD (K01.lo a b))
  | _ => False
/-- what is_fraction tells -/
def isFD : D → Bool
  | .tup [.int a, .int b] => decide (1 ≤ b) && decide (Int.gcd a b = 1)
  | _ => false
theorem isFD_len {ds : List D} (h : ds.length ≠ 2) : isFD (.tup ds) = false := by
  unfold isFD
  split
  · rename_i a b e
    cases e
    exact absurd rfl h
  · rfl
/-- items that are no objects, pairs of small numbers -/
def okF : D → Prop
  | .tup [a, b] => noObj a = true ∧ noObj b = true ∧ ∀ i j, a = .int i → b = .int j → Bd i ∧ Bd j
  | .obj _ _ _ => False
  | _ => True
def fIsF : DF := fun ds k _ => match ds with
  | [d] => okF d ∧ k (.bl (isFD d))
  | _ => False
def fPlus : DF := fun ds k _ => match ds with
  | [.tup [.int a, .int b], .tup [.int c, .int d]] => ((b ≠ 0 ∧ d ≠ 0) ∧ (Bd a ∧ Bd b ∧ Bd c ∧ Bd d) ∧ Bd (a * d + c * b) ∧ Bd (b * d)) ∧ k (frD (K01.lo (a * d + c * b) (b * d)))
  | _ => False
theorem abs_if (z : Int) : (if z < 0 then -z else z) = (z.natAbs : Int) := by split <;> omega
abbrev n_is_whole_number : List Str := ["value"]
abbrev t_is_whole_number : DTS := (dRet (dAndV (dUn (oIsi "int") (dVar 0)) (dNotV (dUn (oIsi "bool") (dVar 0)))))
theorem rd_is_whole_number : ∀ ds kk xx, ds.length = 1 → fWhole ds kk xx → t_is_whole_number (dEnds kk) (env0 n_is_whole_number ds) := by
  unfold t_is_whole_number n_is_whole_number
  rintro ds kk xx hl h
  match ds, hl, h with
  | [d], _, ⟨hn, h⟩ =>
    decreasing_trivial_pre_omega
    refine isi_int hn ?_
    cases d with
    | int i => simp only [isIBD]; decreasing_trivial_pre_omega; refine isi_bool (d := .int i) rfl ?_; decreasing_trivial_pre_omega; exact h
    | bl b => simp only [isIBD]; decreasing_trivial_pre_omega; refine isi_bool (d := .bl b) rfl ?_; decreasing_trivial_pre_omega; exact h
    | obj C ns ds => cases hn
    | _ => exact h
abbrev n__law_is_integer : List Str := ["_law_value"]
abbrev t__law_is_integer : DTS := (dRet (dAndV (dUn (oIsi "int") (dVar 0)) (dNotV (dUn (oIsi "bool") (dVar 0)))))
theorem rd__law_is_integer : ∀ ds kk xx, ds.length = 1 → fWhole ds kk xx → t__law_is_integer (dEnds kk) (env0 n__law_is_integer ds) := by
  unfold t__law_is_integer n__law_is_integer
  rintro ds kk xx hl h
  match ds, hl, h with
  | [d], _, ⟨hn, h⟩ =>
    decreasing_trivial_pre_omega
    refine isi_int hn ?_
    cases d with
    | int i => simp only [isIBD]; decreasing_trivial_pre_omega; refine isi_bool (d := .int i) rfl ?_; decreasing_trivial_pre_omega; exact h
    | bl b => simp only [isIBD]; decreasing_trivial_pre_omega; refine isi_bool (d := .bl b) rfl ?_; decreasing_trivial_pre_omega; exact h
    | obj C ns ds => cases hn
    | _ => exact h
abbrev n_is_number : List Str := ["value", "many"]
abbrev t_is_number : DTS := (dRet (dAndV (dDat (dCall 1 fWhole (fun _ => False) (dCons (dRel (dVar 0)) dNil))) (dChain oLe oLt (dDat (dC (.int 0))) (dVar 0) (dVar 1))))
theorem rd_is_number : ∀ ds kk xx, ds.length = 2 → fIsNum ds kk xx → t_is_number (dEnds kk) (env0 n_is_number ds) := by
  unfold t_is_number n_is_number
  rintro ds kk xx hl h
  match ds, hl, h with
  | [d, .int m], _, ⟨hn, h⟩ =>
    decreasing_trivial_pre_omega
    refine ⟨hn, ?_⟩
    cases d with
    | int i =>
      have h : kk (.bl (decide (0 ≤ i) && decide (i < m))) := h
      simp only [isID]
      decreasing_trivial_pre_omega
      by_cases h0 : (0 : Int) ≤ i
      · simp only [h0, decide_true, Bool.true_and] at h
        rw [if_pos h0]
        exact h
      · simp only [h0, decide_false, Bool.false_and] at h
        rw [if_neg h0]
        exact h
    | obj C ns ds => cases hn
    | _ => exact h
abbrev n_is_below : List Str := ["one", "other"]
abbrev t_is_below : DTS := (dRet (dOp oLt (dOp oMul (dOp oIx (dVar 0) (dDat (dC (.int 0)))) (dOp oIx (dVar 1) (dDat (dC (.int 1))))) (dOp oMul (dOp oIx (dVar 1) (dDat (dC (.int 0)))) (dOp oIx (dVar 0) (dDat (dC (.int 1)))))))
theorem rd_is_below : ∀ ds kk xx, ds.length = 2 → fLess ds kk xx → t_is_below (dEnds kk) (env0 n_is_below ds) := by
  unfold t_is_below n_is_below
  rintro ds kk xx hl h
  match ds, hl, h with
  | [.tup [.int a, .int b], .tup [.int c, .int d]], _, ⟨⟨h1, h2, h3, h4⟩, h⟩ =>
    decreasing_trivial_pre_omega
    exact ⟨bd_mul h1 h4, bd_mul h3 h2, h⟩
abbrev n__law_is_less : List Str := ["_law_one_here", "_law_other"]
abbrev t__law_is_less : DTS := (dRet (dOp oLt (dOp oMul (dOp oIx (dVar 0) (dDat (dC (.int 0)))) (dOp oIx (dVar 1) (dDat (dC (.int 1))))) (dOp oMul (dOp oIx (dVar 1) (dDat (dC (.int 0)))) (dOp oIx (dVar 0) (dDat (dC (.int 1)))))))
theorem rd__law_is_less : ∀ ds kk xx, ds.length = 2 → fLess ds kk xx → t__law_is_less (dEnds kk) (env0 n__law_is_less ds) := by
  unfold t__law_is_less n__law_is_less
  rintro ds kk xx hl h
  match ds, hl, h with
  | [.tup [.int a, .int b], .tup [.int c, .int d]], _, ⟨⟨h1, h2, h3, h4⟩, h⟩ =>
    decreasing_trivial_pre_omega
    exact ⟨bd_mul h1 h4, bd_mul h3 h2, h⟩
abbrev n_common_divisor : List Str := ["one", "other"]
abbrev t_common_divisor : DTS := (dSeq (dWhile (dTst (dOp oNe (dVar 1) (dDat (dC (.int 0))))) (dPar2 0 1 (dVar 1) (dOp oMod (dVar 0) (dVar 1))))
  (dRet (dUn oAbs (dVar 0))))
theorem rd_common_divisor : ∀ ds kk xx, ds.length = 2 → fCd ds kk xx → t_common_divisor (dEnds kk) (env0 n_common_divisor ds) := by
  unfold t_common_divisor n_common_divisor
  rintro ds kk xx hl h
  match ds, hl, h with
  | [.int a, .int b], _, h =>
    show dWhile _ _ _ _
    refine while_d (fun e => ∃ x y : Int, e = [.dat (.int x), .dat (.int y)] ∧ Int.gcd x y = Int.gcd a b) (fun e => match e with | [_, .dat (.int y)] => y.natAbs | _ => 0) ⟨a, b, rfl, rfl⟩ ?_
    rintro e ⟨x, y, rfl, hg⟩
    decreasing_trivial_pre_omega
    by_cases hy : y = 0
    · subst hy
      rw [if_neg (by simp), abs_if]
      have h : kk (.int (Int.gcd a b)) := h
      rw [← hg, Int.gcd_zero_right] at h
      exact h
    · rw [if_pos hy]
      exact next_d ⟨hy, ⟨_, _, rfl, by rw [gcd_step]; exact hg⟩, fmod_small x y hy⟩
abbrev n__law_frac : List Str := ["_law_above", "_law_below", "_law_one_here", "_law_other", "_law_sign"]
abbrev t__law_frac : DTS := (dSeq (dPar2 2 3 (dUn oAbs (dVar 0)) (dUn oAbs (dVar 1)))
  (dSeq (dWhile (dTst (dOp oGt (dVar 3) (dDat (dC (.int 0))))) (dPar2 2 3 (dVar 3) (dOp oMod (dUn oToInt (dVar 2)) (dVar 3))))
  (dSeq (dSet 4 (dRel (dIfE (dTst (dOp oGt (dVar 1) (dDat (dC (.int 0))))) (dDat (dC (.int 1))) (dUn oNeg (dDat (dC (.int 1)))))))
  (dRet (dDat (dTup (dCons (dRel (dOp oDiv (dOp oMul (dVar 4) (dVar 0)) (dVar 2))) (dCons (dRel (dOp oDiv (dOp oMul (dVar 4) (dVar 1)) (dVar 2))) dNil))))))))
theorem rd__law_frac : ∀ ds kk xx, ds.length = 2 → fFrac ds kk xx → t__law_frac (dEnds kk) (env0 n__law_frac ds) := by
  unfold t__law_frac n__law_frac
  rintro ds kk xx hl h
  match ds, hl, h with
  | [.int a, .int b], _, ⟨⟨b0, ba, bb⟩, h⟩ =>
    decreasing_trivial_pre_omega
    refine while_d (fun e => ∃ x y : Int, e = [.dat (.int a), .dat (.int b), .dat (.int x), .dat (.int y), .no] ∧ 0 ≤ x ∧ 0 ≤ y ∧ Int.gcd x y = Int.gcd a b) (fun e => match e with | [_, _, _, .dat (.int y), _] => y.natAbs | _ => 0) ⟨_, _, rfl, ?_, ?_, ?_⟩ ?_
    · split <;> omega
    · split <;> omega
    · rw [abs_if, abs_if]
      unfold Int.gcd
      rfl
    rintro e ⟨x, y, rfl, x0, y0, hg⟩
    decreasing_trivial_pre_omega
    by_cases hy : 0 < y
    · rw [if_pos hy]
      exact next_d ⟨by omega, ⟨_, _, rfl, y0, Int.fmod_nonneg_of_pos _ hy, by rw [gcd_step]; exact hg⟩, fmod_small x y (by omega)⟩
    · rw [if_neg hy]
      have z : y = 0 := by omega
      subst z
      have ex : x = (Int.gcd a b : Int) := by
        rw [← hg, Int.gcd_zero_right]
        omega
      subst ex
      have g := gcd_pos a b b0
      have lg : ((Int.gcd a b : Int)).natAbs.log2 < 9000 := bd_log (by
        have h1 := gcd_le a b b0
        have h2 : b.natAbs < 2 ^ 200 := bb
        show ((Int.gcd a b : Int)).natAbs < 2 ^ 200
        omega)
      have fd : ∀ z : Int, z.fdiv (Int.gcd a b : Int) = z / (Int.gcd a b : Int) := fun z => Int.fdiv_eq_ediv_of_nonneg z (by omega)
      by_cases hb : 0 < b
      · rw [if_pos hb]
        refine ⟨bd_mul (by show (1 : Int).natAbs < 2 ^ 200; decide) ba, ⟨by omega, lg⟩, bd_mul (by show (1 : Int).natAbs < 2 ^ 200; decide) bb, ⟨by omega, lg⟩, by decide, ?_⟩
        rw [fd, fd]
        have e : K01.lo a b = (1 * a / (Int.gcd a b : Int), 1 * b / (Int.gcd a b : Int)) := by unfold K01.lo sg; rw [if_pos hb]
        rw [e] at h
        exact h
      · rw [if_neg hb]
        refine ⟨bd_mul (by show (-1 : Int).natAbs < 2 ^ 200; decide) ba, ⟨by omega, lg⟩, bd_mul (by show (-1 : Int).natAbs < 2 ^ 200; decide) bb, ⟨by omega, lg⟩, by decide, ?_⟩
        rw [fd, fd]
        have e : K01.lo a b = (-1 * a / (Int.gcd a b : Int), -1 * b / (Int.gcd a b : Int)) := by unfold K01.lo sg; rw [if_neg hb]
        rw [e] at h
        exact h
theorem mul_lt {x y : Int} {i j n : Nat} (hx : x.natAbs < 2 ^ i) (hy : y.natAbs < 2 ^ j) (h : i + j ≤ n) : (x * y).natAbs < 2 ^ n := by
  rw [Int.natAbs_mul]
  calc x.natAbs * y.natAbs < 2 ^ i * 2 ^ j := Nat.mul_lt_mul'' hx hy
    _ = 2 ^ (i + j) := (Nat.pow_add 2 i j).symm
    _ ≤ 2 ^ n := Nat.pow_le_pow_right (by decide) h
/-- what plus wants, by bits -/
theorem plus_ok {a b c d : Int} {i j : Nat} (b0 : b ≠ 0) (d0 : d ≠ 0) (ha : a.natAbs < 2 ^ i) (hb : b.natAbs < 2 ^ i) (hc : c.natAbs < 2 ^ j) (hd : d.natAbs < 2 ^ j) (h : i + j ≤ 199) : (b ≠ 0 ∧ d ≠ 0) ∧ (Bd a ∧ Bd b ∧ Bd c ∧ Bd d) ∧ Bd (a * d + c * b) ∧ Bd (b * d) := by
  have e1 := mul_lt (n := 199) ha hd h
  have e2 := mul_lt (n := 199) hc hb (by omega)
  have e3 := mul_lt (n := 199) hb hd h
  have k : (2 : Nat) ^ 199 + 2 ^ 199 = 2 ^ 200 := by decide
  refine ⟨⟨b0, d0⟩, ⟨up_lt ha (by omega), up_lt hb (by omega), up_lt hc (by omega), up_lt hd (by omega)⟩, ?_, ?_⟩
  · show (a * d + c * b).natAbs < 2 ^ 200
    omega
  · show (b * d).natAbs < 2 ^ 200
    omega
abbrev n__law_plus : List Str := ["_law_one_here", "_law_other"]
abbrev t__law_plus : DTS := (dRet (dDat (dCall 2 fFrac (fun _ => False) (dCons (dRel (dOp oAdd (dOp oMul (dOp oIx (dVar 0) (dDat (dC (.int 0)))) (dOp oIx (dVar 1) (dDat (dC (.int 1))))) (dOp oMul (dOp oIx (dVar 1) (dDat (dC (.int 0)))) (dOp oIx (dVar 0) (dDat (dC (.int 1))))))) (dCons (dRel (dOp oMul (dOp oIx (dVar 0) (dDat (dC (.int 1)))) (dOp oIx (dVar 1) (dDat (dC (.int 1)))))) dNil)))))
theorem rd__law_plus : ∀ ds kk xx, ds.length = 2 → fPlus ds kk xx → t__law_plus (dEnds kk) (env0 n__law_plus ds) := by
  unfold t__law_plus n__law_plus
  rintro ds kk xx hl h
  match ds, hl, h with
  | [.tup [.int a, .int b], .tup [.int c, .int d]], _, ⟨⟨⟨b0, d0⟩, ⟨h1, h2, h3, h4⟩, h5, h6⟩, h⟩ =>
    decreasing_trivial_pre_omega
    exact ⟨bd_mul h1 h4, bd_mul h3 h2, bd_mul h2 h4, ⟨⟨Int.mul_ne_zero b0 d0, h5, h6⟩, h⟩⟩
abbrev n_is_fraction : List Str := ["value", "top", "bottom"]
abbrev t_is_fraction : DTS := (dSeq (dIf (dOr (dNot (dTst (dUn (oIsi "tuple") (dVar 0)))) (dTst (dOp oNe (dUn oLen (dVar 0)) (dDat (dC (.int 2)))))) (dRet (dDat (dC (.bl false)))) dNext)
  (dSeq (dAsg (dRel (dVar 0)) (dgTup 2 (dgCons (dName 1) (dgCons (dName 2) dgNil))))
  (dSeq (dIf (dOr (dNot (dTst (dDat (dCall 1 fWhole (fun _ => False) (dCons (dRel (dVar 1)) dNil))))) (dNot (dTst (dDat (dCall 1 fWhole (fun _ => False) (dCons (dRel (dVar 2)) dNil)))))) (dRet (dDat (dC (.bl false)))) dNext)
  (dRet (dAndV (dOp oGe (dVar 2) (dDat (dC (.int 1)))) (dOp oEq (dDat (dCall 2 fCd (fun _ => False) (dCons (dRel (dVar 1)) (dCons (dRel (dVar 2)) dNil)))) (dDat (dC (.int 1)))))))))
theorem rd_is_fraction : ∀ ds kk xx, ds.length = 1 → fIsF ds kk xx → t_is_fraction (dEnds kk) (env0 n_is_fraction ds) := by
  unfold t_is_fraction n_is_fraction
  rintro ds kk xx hl h
  match ds, hl, h with
  | [d], _, ⟨ok, h⟩ =>
    decreasing_trivial_pre_omega
    have hn : noObj d = true := by cases d <;> first | rfl | exact ok.elim
    refine isi_tuple hn ?_
    cases d with
    | tup ds =>
      simp only [isTD]
      decreasing_trivial_pre_omega
      match ds, ok, h with
      | [a, b], ⟨n1, n2, bd⟩, h =>
        decreasing_trivial_pre_omega
        refine ⟨n1, ?_⟩
        cases a with
        | int i =>
          simp only [isID]
          decreasing_trivial_pre_omega
          refine ⟨n2, ?_⟩
          cases b with
          | int j =>
            have h : kk (.bl (decide (1 ≤ j) && decide (Int.gcd i j = 1))) := h
            simp only [isID]
            decreasing_trivial_pre_omega
            by_cases h1 : 1 ≤ j
            · rw [if_pos h1]
              rw [decide_eq_true h1, Bool.true_and] at h
              show eqOk (.int _) = true ∧ kk _
              decreasing_trivial_pre_omega
              have e : decide ((Int.gcd i j : Int) = 1) = decide (Int.gcd i j = 1) := decide_eq_decide.mpr ⟨fun z => by omega, fun z => by omega⟩
              rw [e]
              exact h
            · rw [if_neg h1]
              rw [decide_eq_false h1, Bool.false_and] at h
              exact h
          | _ => exact h
        | _ => exact h
      | [], _, h => rw [if_pos (by simp)]; exact h
      | [_], _, h => rw [if_pos (by simp)]; rw [isFD_len (by simp)] at h; exact h
      | a :: b :: c :: r, _, h => rw [if_pos (by simp only [List.length_cons]; omega)]; rw [isFD_len (by simp)] at h; exact h
    | obj C ns ds => cases hn
    | _ => exact h
abbrev n__law_is_fraction : List Str := ["_law_value"]
abbrev t__law_is_fraction : DTS := (dSeq (dIf (dOr (dNot (dTst (dUn (oIsi "tuple") (dVar 0)))) (dTst (dOp oNe (dUn oLen (dVar 0)) (dDat (dC (.int 2)))))) (dRet (dDat (dC (.bl false)))) dNext)
  (dSeq (dIf (dOr (dNot (dTst (dDat (dCall 1 fWhole (fun _ => False) (dCons (dRel (dOp oIx (dVar 0) (dDat (dC (.int 0))))) dNil))))) (dOr (dNot (dTst (dDat (dCall 1 fWhole (fun _ => False) (dCons (dRel (dOp oIx (dVar 0) (dDat (dC (.int 1))))) dNil))))) (dTst (dOp oLt (dOp oIx (dVar 0) (dDat (dC (.int 1)))) (dDat (dC (.int 1))))))) (dRet (dDat (dC (.bl false)))) dNext)
  (dRet (dOp oEq (dDat (dCall 2 fFrac (fun _ => False) (dCons (dRel (dOp oIx (dVar 0) (dDat (dC (.int 0))))) (dCons (dRel (dOp oIx (dVar 0) (dDat (dC (.int 1))))) dNil)))) (dVar 0)))))
theorem rd__law_is_fraction : ∀ ds kk xx, ds.length = 1 → fIsF ds kk xx → t__law_is_fraction (dEnds kk) (env0 n__law_is_fraction ds) := by
  unfold t__law_is_fraction n__law_is_fraction
  rintro ds kk xx hl h
  match ds, hl, h with
  | [d], _, ⟨ok, h⟩ =>
    decreasing_trivial_pre_omega
    have hn : noObj d = true := by cases d <;> first | rfl | exact ok.elim
    refine isi_tuple hn ?_
    cases d with
    | tup ds =>
      simp only [isTD]
      decreasing_trivial_pre_omega
      match ds, ok, h with
      | [a, b], ⟨n1, n2, bd⟩, h =>
        decreasing_trivial_pre_omega
        refine ⟨n1, ?_⟩
        cases a with
        | int i =>
          simp only [isID]
          decreasing_trivial_pre_omega
          refine ⟨n2, ?_⟩
          cases b with
          | int j =>
            have h : kk (.bl (decide (1 ≤ j) && decide (Int.gcd i j = 1))) := h
            simp only [isID]
            decreasing_trivial_pre_omega
            by_cases h1 : 1 ≤ j
            · rw [if_neg (show ¬ j < 1 by omega)]
              rw [decide_eq_true h1, Bool.true_and] at h
              refine ⟨⟨by omega, bd i j rfl rfl⟩, ?_⟩
              have sh : ∀ x y : Int, eqOk (.tup [.int x, .int y]) = true := fun x y => by simp [eqOk, D.flatd, D.flatds, D.py, D.pys, SeqAt.shaped, PyData.canLay0, PyData.canLayAll0, PyData.depth, PyData.depthAll]
              refine ⟨sh _ _, sh _ _, ?_⟩
              have e2 : ∀ x y m n : Int, PyData.eqv (D.tup [.int x, .int y]).py (D.tup [.int m, .int n]).py = (decide (x = m) && decide (y = n)) := fun x y m n => by
                simp only [D.py, D.pys, PyData.eqv, PyData.eqvAll, Bool.and_true]
                by_cases q1 : x = m <;> by_cases q2 : y = n <;> simp [q1, q2]
              have e3 : (decide ((K01.lo i j).1 = i) && decide ((K01.lo i j).2 = j)) = decide (Int.gcd i j = 1) := by
                rw [← Bool.decide_and]
                exact decide_eq_decide.mpr ⟨fun q => (lo_self h1).mp (Prod.ext q.1 q.2), fun q => ⟨congrArg Prod.fst ((lo_self h1).mpr q), congrArg Prod.snd ((lo_self h1).mpr q)⟩⟩
              unfold frD
              rw [e2, e3]
              exact h
            · rw [if_pos (show j < 1 by omega)]
              rw [decide_eq_false h1, Bool.false_and] at h
              exact h
          | _ => exact h
        | _ => exact h
      | [], _, h => rw [if_pos (by simp)]; exact h
      | [_], _, h => rw [if_pos (by simp)]; rw [isFD_len (by simp)] at h; exact h
      | a :: b :: c :: r, _, h => rw [if_pos (by simp only [List.length_cons]; omega)]; rw [isFD_len (by simp)] at h; exact h
    | obj C ns ds => cases hn
    | _ => exact h
end KK
namespace KK
open PySem PySem.Spec PyProof.Rows L2 LL DL K01
def ascI (ns : List Int) : Bool := (ns.zip ns.tail).all fun p => decide (p.1 < p.2)
def ascD (m : Int) : D → Bool
  | .tup ds => ds.all (isNum m) && ascI ((intsOf ds).getD [])
  | _ => false
def fAsc : DF := fun ds k _ => match ds with
  | [d, .int m] => d.small = true ∧ k (.bl (ascD m d))
  | _ => False
theorem ints_all {m : Int} : ∀ {ds : List D}, ds.all (isNum m) = true → ∃ ns : List Int, ds = ns.map D.int ∧ ns.all (fun i => decide (0 ≤ i) && decide (i < m)) = true
  | [], _ => ⟨[], rfl, rfl⟩
  | d :: ds, h => by
    rw [List.all_cons] at h
    have z := Bool.and_eq_true_iff.mp h
    obtain ⟨ns, e, q⟩ := ints_all z.2
    cases d with
    | int i => exact ⟨i :: ns, by rw [e]; rfl, by rw [List.all_cons, q, Bool.and_true]; exact z.1⟩
    | _ => exact absurd z.1 Bool.false_ne_true
/-- the first word against a task, by its number of so many -/
def isLow : D → Bool
  | .tup [.int a, .int b] => isFD (.tup [.int a, .int b]) && decide (0 < a)
  | _ => false
def lessD : D → D → Bool
  | .tup [.int a, .int b], .tup [.int c, .int d] => decide (a * d < c * b)
  | _, _ => false
def hasD (n : Int) : D → Bool
  | .tup ds => inD (.int n) ds
  | _ => false
def wordD (n m : Int) : D → Option Str
  | .tup [f, l, h] => if (ascD m f && !hasD n f) = true then (if isLow l = true then (if (isFD h && !lessD h l) = true then none else some "high") else some "low") else some "forerunners"
  | _ => some "task"
theorem wordD_len {n m : Int} {ds : List D} (h : ds.length ≠ 3) : wordD n m (.tup ds) = some "task" := by
  match ds, h with
  | [], _ => rfl
  | [_], _ => rfl
  | [_, _], _ => rfl
  | [_, _, _], h => exact absurd rfl h
  | _ :: _ :: _ :: _ :: _, _ => rfl
def fWord : DF := fun ds k _ => match ds with
  | [d, .int n, .int m] => d.small = true ∧ k (match wordD n m d with | some x => .str x | none => .non)
  | _ => False
def fWordL : DF := fun ds k _ => match ds with
  | [d, .int n, .int m] => d.small = true ∧ k (.str ((wordD n m d).getD ""))
  | _ => False
theorem small_okF {d : D} (h : d.small = true) : okF d := by
  cases d with
  | tup ds =>
    match ds, h with
    | [a, b], h =>
      obtain ⟨_, q⟩ := small_tup h
      have sa : a.small = true := smalls_mem q (by simp)
      have sb : b.small = true := smalls_mem q (by simp)
      exact ⟨small_no sa, small_no sb, fun i j e1 e2 => by subst e1 e2; exact ⟨small_bd sa, small_bd sb⟩⟩
    | [], _ => trivial
    | [_], _ => trivial
    | _ :: _ :: _ :: _, _ => trivial
  | obj C ns ds => cases h
  | _ => trivial
/-- a fraction's parts -/
theorem isFD_ex {d : D} (h : isFD d = true) : ∃ a b : Int, d = .tup [.int a, .int b] ∧ 1 ≤ b ∧ Int.gcd a b = 1 := by
  unfold isFD at h
  split at h
  · rename_i a b
    have z := Bool.and_eq_true_iff.mp h
    exact ⟨a, b, rfl, of_decide_eq_true z.1, of_decide_eq_true z.2⟩
  · cases h
theorem ascD_ex {m : Int} {d : D} (h : ascD m d = true) : ∃ ns : List Int, d = .tup (ns.map D.int) ∧ ns.all (fun i => decide (0 ≤ i) && decide (i < m)) = true ∧ ascI ns = true := by
  cases d with
  | tup ds =>
    have z := Bool.and_eq_true_iff.mp h
    obtain ⟨ns, rfl, q⟩ := ints_all z.1
    have w := z.2
    rw [intsOf_map] at w
    exact ⟨ns, rfl, q, w⟩
  | _ => cases h
abbrev n_is_ascending : List Str := ["value", "many", "one", "other", "item"]
abbrev t_is_ascending : DTS := (dSeq (dIf (dOr (dNot (dTst (dUn (oIsi "tuple") (dVar 0)))) (dNot (dTst (dUn (oAll fun bs => bs.all id) (dLc (diSeq (dVar 0)) (dName 4) dYes (dCall 2 fIsNum (fun _ => False) (dCons (dRel (dVar 4)) (dCons (dRel (dVar 1)) dNil))) [4]))))) (dRet (dDat (dC (.bl false)))) dNext)
  (dRet (dUn (oAll fun bs => bs.all id) (dLc (diZip (dCons (dRel (dVar 0)) (dCons (dRel (dSl (dVar 0) (doSome (dC (.int 1))) doNone)) dNil))) (dgTup 2 (dgCons (dName 2) (dgCons (dName 3) dgNil))) dYes (dRel (dOp oLt (dVar 2) (dVar 3))) [2, 3]))))
theorem rd_is_ascending : ∀ ds kk xx, ds.length = 2 → fAsc ds kk xx → t_is_ascending (dEnds kk) (env0 n_is_ascending ds) := by
  unfold t_is_ascending n_is_ascending
  rintro ds kk xx hl h
  match ds, hl, h with
  | [d, .int m], _, ⟨sm, h⟩ =>
    decreasing_trivial_pre_omega
    refine isi_tuple (small_no sm) ?_
    cases d with
    | tup ds =>
      obtain ⟨ln, sm'⟩ := small_tup sm
      simp only [isTD]
      decreasing_trivial_pre_omega
      simp only [dLc_eq]
      decreasing_trivial_pre_omega
      refine lc_map (fun d => .bl (isNum m d)) rfl ln (fun d hd k hk => ?_) ?_
      · unfold LcT
        decreasing_trivial_pre_omega
        refine ⟨rfl, small_no (smalls_mem sm' hd), hk⟩
      · rw [show ds.map (fun d => D.bl (isNum m d)) = (ds.map (isNum m)).map D.bl by rw [List.map_map]; rfl]
        simp only [oal_n]
        decreasing_trivial_pre_omega
        by_cases ha : ds.all (isNum m) = true
        · have e1 : (ds.map (isNum m)).all id = true := by rw [List.all_map]; exact ha
          rw [e1]
          decreasing_trivial_pre_omega
          simp only [cut_1]
          obtain ⟨ns, rfl, _⟩ := ints_all ha
          have ez : zipD (ns.map D.int) (ns.map D.int).tail = (ns.zip ns.tail).map fun p => D.tup [.int p.1, .int p.2] := by
            unfold zipD
            rw [← List.map_tail, List.zip_map, List.map_map]
            rfl
          rw [ez]
          refine lc_map (fun d => match d with | .tup [.int a, .int b] => .bl (decide (a < b)) | _ => .non) rfl ?_ (fun d hd k hk => ?_) ?_
          · rw [List.length_map, List.length_zip]
            rw [List.length_map] at ln
            omega
          · obtain ⟨p, _, rfl⟩ := List.mem_map.mp hd
            unfold LcT
            decreasing_trivial_pre_omega
            exact ⟨rfl, hk⟩
          · rw [List.map_map, show ((fun d => match d with | .tup [.int a, .int b] => D.bl (decide (a < b)) | _ => .non) ∘ fun p : Int × Int => D.tup [.int p.1, .int p.2]) = fun p => D.bl (decide (p.1 < p.2)) from rfl,
              show (ns.zip ns.tail).map (fun p => D.bl (decide (p.1 < p.2))) = ((ns.zip ns.tail).map fun p => decide (p.1 < p.2)).map D.bl by rw [List.map_map]; rfl]
            simp only [oal_n]
            decreasing_trivial_pre_omega
            have h : kk (.bl ((ns.map D.int).all (isNum m) && ascI ((intsOf (ns.map D.int)).getD []))) := h
            rw [ha, Bool.true_and, intsOf_map] at h
            rw [List.all_map]
            exact h
        · have e1 : (ds.map (isNum m)).all id = false := by rw [List.all_map]; exact eq_false_of_ne_true ha
          rw [e1]
          decreasing_trivial_pre_omega
          have h : kk (.bl (ds.all (isNum m) && ascI ((intsOf ds).getD []))) := h
          rw [eq_false_of_ne_true ha, Bool.false_and] at h
          exact h
    | obj C ns ds => cases sm
    | _ => exact h
end KK
namespace KK
open PySem PySem.Spec PyProof.Rows L2 LL DL K01
theorem three {ds : List D} (h : ds.length = 3) : ∃ a b c, ds = [a, b, c] := by
  match ds, h with
  | [a, b, c], _ => exact ⟨a, b, c, rfl⟩
abbrev n_wrong_word : List Str := ["task", "number", "many", "forerunners", "low", "high"]
abbrev t_wrong_word : DTS := (dSeq (dIf (dOr (dNot (dTst (dUn (oIsi "tuple") (dVar 0)))) (dTst (dOp oNe (dUn oLen (dVar 0)) (dDat (dC (.int 3)))))) (dRet (dDat (dC (.str "task")))) dNext)
  (dSeq (dAsg (dRel (dVar 0)) (dgTup 3 (dgCons (dName 3) (dgCons (dName 4) (dgCons (dName 5) dgNil)))))
  (dSeq (dIf (dOr (dNot (dTst (dDat (dCall 2 fAsc (fun _ => False) (dCons (dRel (dVar 3)) (dCons (dRel (dVar 2)) dNil)))))) (dTst (dOp (oIn false) (dVar 1) (dVar 3)))) (dRet (dDat (dC (.str "forerunners")))) dNext)
  (dSeq (dIf (dOr (dNot (dTst (dDat (dCall 1 fIsF (fun _ => False) (dCons (dRel (dVar 4)) dNil))))) (dTst (dOp oLe (dOp oIx (dVar 4) (dDat (dC (.int 0)))) (dDat (dC (.int 0)))))) (dRet (dDat (dC (.str "low")))) dNext)
  (dSeq (dIf (dOr (dNot (dTst (dDat (dCall 1 fIsF (fun _ => False) (dCons (dRel (dVar 5)) dNil))))) (dTst (dDat (dCall 2 fLess (fun _ => False) (dCons (dRel (dVar 5)) (dCons (dRel (dVar 4)) dNil)))))) (dRet (dDat (dC (.str "high")))) dNext)
  (dRet (dDat (dC .non))))))))
theorem rd_wrong_word : ∀ ds kk xx, ds.length = 3 → fWord ds kk xx → t_wrong_word (dEnds kk) (env0 n_wrong_word ds) := by
  unfold t_wrong_word n_wrong_word
  rintro ds kk xx hl h
  match ds, hl, h with
  | [d, .int n, .int m], _, ⟨sm, h⟩ =>
    refine seq_d fun N hN => if_d fun T U hT hU => ?_
    clean_wf
    refine isi_tuple (small_no sm) ?_
    by_cases c0 : ∃ f l g, d = .tup [f, l, g]
    · obtain ⟨f, l, g, rfl⟩ := c0
      obtain ⟨_, sm'⟩ := small_tup sm
      have sf : f.small = true := smalls_mem sm' List.mem_cons_self
      have sl : l.small = true := smalls_mem sm' (List.mem_cons_of_mem _ List.mem_cons_self)
      have sg : g.small = true := smalls_mem sm' (List.mem_cons_of_mem _ (List.mem_cons_of_mem _ List.mem_cons_self))
      simp only [isTD]
      clean_wf
      rw [if_neg (fun z => z rfl)]
      refine hU _ (hN _ ?_)
      refine seq_d fun N2 hN2 => ?_
      clean_wf
      refine hN2 _ (seq_d fun N3 hN3 => if_d fun T3 U3 hT3 hU3 => ?_)
      clean_wf
      refine ⟨sf, ?_⟩
      by_cases c1 : ascD m f = true
      · obtain ⟨ns, rfl, q1, q2⟩ := ascD_ex c1
        rw [c1]
        clean_wf
        have fl : (ns.map D.int).all D.flat = true := by
          rw [List.all_map]
          exact List.all_eq_true.mpr fun _ _ => rfl
        refine ⟨⟨rfl, fl⟩, ?_⟩
        have eh : inD (.int n) (ns.map D.int) = hasD n (.tup (ns.map D.int)) := rfl
        by_cases c2 : inD (.int n) (ns.map D.int) = true
        · rw [c2]
          clean_wf
          refine hT3 _ ?_
          have e : wordD n m (.tup [.tup (ns.map D.int), l, g]) = some "forerunners" := if_neg (by rw [← eh, c2]; simp)
          rw [e] at h
          exact h
        · rw [eq_false_of_ne_true c2]
          clean_wf
          have c12 : (ascD m (.tup (ns.map D.int)) && !hasD n (.tup (ns.map D.int))) = true := by rw [c1, ← eh, eq_false_of_ne_true c2]; rfl
          have ew : wordD n m (.tup [.tup (ns.map D.int), l, g]) = (if isLow l = true then (if (isFD g && !lessD g l) = true then (none : Option Str) else some ("high" : Str)) else some ("low" : Str)) := if_pos c12
          rw [ew] at h
          refine hU3 _ (hN3 _ (seq_d fun N4 hN4 => if_d fun T4 U4 hT4 hU4 => ?_))
          clean_wf
          refine ⟨small_okF sl, ?_⟩
          by_cases c3 : isFD l = true
          · obtain ⟨a, b, rfl, b1, gg⟩ := isFD_ex c3
            rw [c3]
            clean_wf
            by_cases c4 : a ≤ 0
            · rw [if_pos c4]
              refine hT4 _ ?_
              have el : isLow (.tup [.int a, .int b]) = false := by
                show (isFD (.tup [.int a, .int b]) && decide (0 < a)) = false
                rw [c3, decide_eq_false (by omega)]
                rfl
              rw [el] at h
              exact h
            · rw [if_neg c4]
              have el : isLow (.tup [.int a, .int b]) = true := by
                show (isFD (.tup [.int a, .int b]) && decide (0 < a)) = true
                rw [c3, decide_eq_true (by omega)]
                rfl
              rw [el, if_pos rfl] at h
              refine hU4 _ (hN4 _ (seq_d fun N5 hN5 => if_d fun T5 U5 hT5 hU5 => ?_))
              clean_wf
              refine ⟨small_okF sg, ?_⟩
              by_cases c5 : isFD g = true
              · obtain ⟨p, q, rfl, q1', gq⟩ := isFD_ex c5
                rw [c5]
                clean_wf
                obtain ⟨_, s1⟩ := small_tup sg
                obtain ⟨_, s2⟩ := small_tup sl
                refine ⟨⟨small_bd (smalls_mem s1 List.mem_cons_self), small_bd (smalls_mem s1 (List.mem_cons_of_mem _ List.mem_cons_self)), small_bd (smalls_mem s2 List.mem_cons_self), small_bd (smalls_mem s2 (List.mem_cons_of_mem _ List.mem_cons_self))⟩, ?_⟩
                clean_wf
                have e5 : lessD (.tup [.int p, .int q]) (.tup [.int a, .int b]) = decide (p * b < a * q) := rfl
                rw [c5, e5, Bool.true_and] at h
                by_cases c6 : p * b < a * q
                · rw [if_pos c6]
                  refine hT5 _ ?_
                  rw [decide_eq_true c6] at h
                  exact h
                · rw [if_neg c6]
                  refine hU5 _ (hN5 _ ?_)
                  rw [decide_eq_false c6] at h
                  exact h
              · rw [eq_false_of_ne_true c5]
                clean_wf
                refine hT5 _ ?_
                rw [eq_false_of_ne_true c5] at h
                exact h
          · rw [eq_false_of_ne_true c3]
            clean_wf
            refine hT4 _ ?_
            have el : isLow l = false := by
              unfold isLow
              split
              · rw [eq_false_of_ne_true c3]; rfl
              · rfl
            rw [el] at h
            exact h
      · rw [eq_false_of_ne_true c1]
        clean_wf
        refine hT3 _ ?_
        have e : wordD n m (.tup [f, l, g]) = some "forerunners" := if_neg (by rw [eq_false_of_ne_true c1]; simp)
        rw [e] at h
        exact h
    · have ew : wordD n m d = some "task" := by
        cases d with
        | tup ds =>
          refine wordD_len fun z => ?_
          obtain ⟨a, b, c, rfl⟩ := three z
          exact c0 ⟨a, b, c, rfl⟩
        | _ => rfl
      rw [ew] at h
      have fin : T [.dat d, .dat (.int n), .dat (.int m), .no, .no, .no] := hT _ h
      cases d with
      | tup ds =>
        simp only [isTD]
        clean_wf
        have l3 : ¬ ds.length = 3 := fun z => by
          obtain ⟨a, b, c, rfl⟩ := three z
          exact c0 ⟨a, b, c, rfl⟩
        rw [if_pos (by intro z; exact l3 (by omega))]
        exact fin
      | obj C ns ds => cases sm
      | _ => simp only [isTD]; clean_wf; exact fin
end KK
namespace KK
open PySem PySem.Spec PyProof.Rows L2 LL DL K01
def spTake : Sp := fun vs H Q _ => ∃ (b : Addr) (k : Int), vs = [.ref b, .int k] ∧ DL.BagAt H b ∧ 0 < k ∧ k.natAbs.log2 < 9000 ∧
  ∀ n o, 0 ≤ n → n < k → DL.BagO o → Q (.int n) (upd H b o)
section
variable {P : Program} {w : World} {K : PySem.W.Frag} {mg : Str → Option Value} {base : Heap}
theorem fn_imp {CX : CXT} {k : Nat} {f : Addr} {fd : FuncData} {ps : List Str} {sp sp' : Sp} (F : FnOk P w K mg base CX k f fd ps sp) (h : ∀ vs H Q E, sp' vs H Q E → sp vs H Q E) : FnOk P w K mg base CX k f fd ps sp' :=
  ⟨fun vs H Q E q => F.len vs H Q E (h _ _ _ _ q), fun A out s H args us vs Q E a b c d e => F.run A out s H args us vs Q E a b c d (h _ _ _ _ e)⟩
end
def fTake : DF := fun ds k _ => match ds with
  | [.int n] => (0 < n ∧ n.natAbs.log2 < 9000) ∧ ∀ m, 0 ≤ m → m < n → k (.int m)
  | _ => False
end KK
namespace KK
open PySem PySem.Spec PyProof.Rows L2 LL DL K01
def fOne : DF := fun ds k _ => match ds with
  | [.lst ds] => (0 < ds.length ∧ ds.length ≤ 1000) ∧ ∀ d, d ∈ ds → k d
  | _ => False
def fMixed : DF := fun ds k _ => match ds with
  | [.lst ds] => ∃ ns : List Int, ds = ns.map D.int ∧ ns.length ≤ 500 ∧ ∀ ms : List Int, ms.Perm ns → k (.lst (ms.map D.int))
  | [.tup ds] => ∃ ns : List Int, ds = ns.map D.int ∧ ns.length ≤ 500 ∧ ∀ ms : List Int, ms.Perm ns → k (.lst (ms.map D.int))
  | _ => False
theorem erase_map {α β : Type} (f : α → β) : ∀ (xs : List α) (i : Nat), (xs.map f).eraseIdx i = (xs.eraseIdx i).map f
  | [], _ => rfl
  | _ :: _, 0 => rfl
  | x :: xs, i + 1 => by
    show f x :: (xs.map f).eraseIdx i = f x :: (xs.eraseIdx i).map f
    rw [erase_map f xs i]
theorem erase_perm {α : Type} : ∀ (xs : List α) (i : Nat) (h : i < xs.length), (xs[i] :: xs.eraseIdx i).Perm xs
  | _ :: _, 0, _ => List.Perm.refl _
  | x :: xs, i + 1, h => by
    have hi : i < xs.length := by rw [List.length_cons] at h; omega
    show (xs[i] :: x :: xs.eraseIdx i).Perm (x :: xs)
    exact (List.Perm.swap x xs[i] _).trans ((erase_perm xs i hi).cons x)
theorem log_small {n : Int} (h : n.natAbs ≤ 10 ^ 18) : n.natAbs.log2 < 9000 := bd_log (by show n.natAbs < 2 ^ 200; exact Nat.lt_of_le_of_lt h (by decide))
abbrev n__law_one : List Str := ["_law_deck_here", "_law_items"]
abbrev t__law_one : DTS := (dRet (dOp oIx (dVar 1) (dDat (dCallB 0 1 fTake (dCons (dRel (dUn oLen (dVar 1))) dNil)))))
theorem rd__law_one : ∀ b ds kk xx, ds.length = 1 → fOne ds kk xx → t__law_one (bEnds b kk) (envB b n__law_one ds) := by
  unfold t__law_one n__law_one
  rintro b ds kk xx hl h
  match ds, hl, h with
  | [.lst ds], _, ⟨⟨h0, h1⟩, h⟩ =>
    clean_wf
    show _ ∧ _
    refine ⟨⟨by omega, log_small (by omega)⟩, fun m m0 m1 => ?_⟩
    clean_wf
    have e : L2.atI ds m = some (ds[m.toNat]'(by omega)) := by
      unfold L2.atI ixN
      rw [if_pos m0, if_pos m1]
      exact List.getElem?_eq_getElem (by omega)
    rw [e]
    exact h _ (List.getElem_mem _)
abbrev n__law_mixed : List Str := ["_law_deck_here", "_law_items", "_law_left", "_law_found"]
abbrev t__law_mixed : DTS := (dSeq (dPar2 2 3 (dUn oList (dVar 1)) (dLst dNil))
  (dSeq (dWhile (dTst (dOp (oNil true) (dVar 2) (dLst dNil))) (dDrop (dApp 3 (dRel (dPopAt 2 (dCallB 0 1 fTake (dCons (dRel (dUn oLen (dVar 2))) dNil)))))))
  (dRet (dVar 3))))
theorem rd__law_mixed : ∀ b ds kk xx, ds.length = 1 → fMixed ds kk xx → t__law_mixed (bEnds b kk) (envB b n__law_mixed ds) := by
  unfold t__law_mixed n__law_mixed
  rintro b ds kk xx hl h
  match ds, hl, h with
  | [.lst ds], _, h =>
    obtain ⟨ns, rfl, l0, h⟩ := h
    refine seq_d fun N hN => ?_
    clean_wf
    refine ⟨by omega, fun a a1 => hN _ (seq_d fun N2 hN2 => ?_)⟩
    refine while_d (fun e => ∃ ls fs : List Int, e = [.bag b, .dat (.lst (ns.map D.int)), .own a (ls.map D.int), .own a1 (fs.map D.int)] ∧ (fs ++ ls).Perm ns) (fun e => match e with | [_, _, .own _ ds, _] => ds.length | _ => 0) ⟨ns, [], rfl, by simp⟩ ?_
    rintro e ⟨ls, fs, rfl, pm⟩
    clean_wf
    refine ⟨by omega, ?_⟩
    have pl := pm.length_eq
    rw [List.length_append] at pl
    cases ls with
    | nil =>
      rw [if_neg (by simp)]
      refine hN2 _ ?_
      clean_wf
      rw [List.append_nil] at pm
      exact h fs pm
    | cons l ls =>
      rw [if_pos (by simp)]
      refine next_d ?_
      clean_wf
      refine ⟨⟨by simp only [List.length_map]; omega, log_small (by simp only [List.length_map, List.length_cons] at pl ⊢; omega)⟩, fun m m0 m1 => ?_⟩
      clean_wf
      refine ⟨m0, ?_⟩
      have em : D.int l :: ls.map D.int = (l :: ls).map D.int := rfl
      have lj : m.toNat < (l :: ls).length := by
        rw [List.length_map] at m1
        rw [List.length_cons]
        omega
      rw [em, List.getElem?_map, List.getElem?_eq_getElem lj]
      have pe : ((l :: ls)[m.toNat] :: (l :: ls).eraseIdx m.toNat).Perm (l :: ls) := erase_perm _ _ lj
      have lp := pe.length_eq
      rw [List.length_cons] at lp
      refine ⟨?_, ?_, ⟨(l :: ls).eraseIdx m.toNat, fs ++ [(l :: ls)[m.toNat]], ?_, ?_⟩, ?_⟩
      · rw [List.length_map]
        rw [List.length_cons] at pl
        omega
      · rw [List.length_map]
        rw [List.length_cons] at pl
        omega
      · rw [erase_map, List.map_append]
        rfl
      · rw [List.append_assoc]
        exact (List.Perm.append_left fs pe).trans pm
      · rw [erase_map, List.length_map, List.length_map]
        rw [List.length_cons] at lp
        omega
  | [.tup ds], _, h =>
    obtain ⟨ns, rfl, l0, h⟩ := h
    refine seq_d fun N hN => ?_
    clean_wf
    refine ⟨by omega, fun a a1 => hN _ (seq_d fun N2 hN2 => ?_)⟩
    refine while_d (fun e => ∃ ls fs : List Int, e = [.bag b, .dat (.tup (ns.map D.int)), .own a (ls.map D.int), .own a1 (fs.map D.int)] ∧ (fs ++ ls).Perm ns) (fun e => match e with | [_, _, .own _ ds, _] => ds.length | _ => 0) ⟨ns, [], rfl, by simp⟩ ?_
    rintro e ⟨ls, fs, rfl, pm⟩
    clean_wf
    refine ⟨by omega, ?_⟩
    have pl := pm.length_eq
    rw [List.length_append] at pl
    cases ls with
    | nil =>
      rw [if_neg (by simp)]
      refine hN2 _ ?_
      clean_wf
      rw [List.append_nil] at pm
      exact h fs pm
    | cons l ls =>
      rw [if_pos (by simp)]
      refine next_d ?_
      clean_wf
      refine ⟨⟨by simp only [List.length_map]; omega, log_small (by simp only [List.length_map, List.length_cons] at pl ⊢; omega)⟩, fun m m0 m1 => ?_⟩
      clean_wf
      refine ⟨m0, ?_⟩
      have em : D.int l :: ls.map D.int = (l :: ls).map D.int := rfl
      have lj : m.toNat < (l :: ls).length := by
        rw [List.length_map] at m1
        rw [List.length_cons]
        omega
      rw [em, List.getElem?_map, List.getElem?_eq_getElem lj]
      have pe : ((l :: ls)[m.toNat] :: (l :: ls).eraseIdx m.toNat).Perm (l :: ls) := erase_perm _ _ lj
      have lp := pe.length_eq
      rw [List.length_cons] at lp
      refine ⟨?_, ?_, ⟨(l :: ls).eraseIdx m.toNat, fs ++ [(l :: ls)[m.toNat]], ?_, ?_⟩, ?_⟩
      · rw [List.length_map]
        rw [List.length_cons] at pl
        omega
      · rw [List.length_map]
        rw [List.length_cons] at pl
        omega
      · rw [erase_map, List.map_append]
        rfl
      · rw [List.append_assoc]
        exact (List.Perm.append_left fs pe).trans pm
      · rw [erase_map, List.length_map, List.length_map]
        rw [List.length_cons] at lp
        omega
end KK
namespace KK
open PySem PySem.Spec PyProof.Rows L2 LL DL K01
/-- the tasks ts have the forerunners fs -/
structure Gr (ts : List D) (fs : List (List Int)) : Prop where
  len : ts.length = fs.length
  at_ : ∀ (i : Nat) (f : List Int), fs[i]? = some f → ∃ l h, ts[i]? = some (.tup [.tup (f.map D.int), l, h])
  val : ∀ f ∈ fs, ∀ x ∈ f, 0 ≤ x ∧ x < (fs.length : Int)
  nd : ∀ f ∈ fs, f.Nodup
  few : fs.length ≤ 5
/-- x is a forerunner of n, along some -/
inductive Rch (fs : List (List Int)) : Int → Int → Prop
  | one {n x : Int} {f : List Int} (h : fs[n.toNat]? = some f) (n0 : 0 ≤ n) (m : x ∈ f) : Rch fs n x
  | more {n x y : Int} {f : List Int} (r : Rch fs n x) (h : fs[x.toNat]? = some f) (x0 : 0 ≤ x) (m : y ∈ f) : Rch fs n y
theorem Rch.val {ts : List D} {fs : List (List Int)} (g : Gr ts fs) {n x : Int} (r : Rch fs n x) : 0 ≤ x ∧ x < (fs.length : Int) := by
  cases r with
  | one h _ m => exact g.val _ (List.mem_of_getElem? h) _ m
  | more _ h _ m => exact g.val _ (List.mem_of_getElem? h) _ m
theorem Gr.get {ts : List D} {fs : List (List Int)} (g : Gr ts fs) {x : Int} (h0 : 0 ≤ x) (h1 : x < (fs.length : Int)) : ∃ f l h, fs[x.toNat]? = some f ∧ f ∈ fs ∧ L2.atI ts x = some (.tup [.tup (f.map D.int), l, h]) := by
  have hl : x.toNat < fs.length := by omega
  obtain ⟨l, h, e⟩ := g.at_ x.toNat fs[x.toNat] (List.getElem?_eq_getElem hl)
  refine ⟨fs[x.toNat], l, h, List.getElem?_eq_getElem hl, List.getElem_mem hl, ?_⟩
  unfold L2.atI ixN
  rw [if_pos h0, if_pos (by rw [g.len]; exact h1)]
  exact e
theorem nodup_few {m : Nat} : ∀ {xs : List Int}, xs.Nodup → (∀ x ∈ xs, 0 ≤ x ∧ x < (m : Int)) → xs.length ≤ m := by
  induction m with
  | zero =>
    intro xs nd h
    cases xs with
    | nil => exact Nat.le_refl _
    | cons x xs => have := h x List.mem_cons_self; omega
  | succ m ih =>
    intro xs nd h
    have e := ih (xs := xs.erase (m : Int)) (nd.erase _) (fun x hx => by
      have h1 := (List.Nodup.mem_erase_iff nd).mp hx
      have h2 := h x h1.2
      have h3 := h1.1
      omega)
    by_cases c : (m : Int) ∈ xs
    · rw [List.length_erase_of_mem c] at e
      have : 0 < xs.length := List.length_pos_of_mem c
      omega
    · rw [List.erase_of_not_mem c] at e
      omega
def fAhead : DF := fun ds k _ => match ds with
  | [.tup ts, .int n] => ∃ fs, Gr ts fs ∧ (0 ≤ n ∧ n < (fs.length : Int)) ∧ ∀ rs : List Int, rs.length ≤ 5 → (∀ x, x ∈ rs ↔ Rch fs n x) → k (.lst (rs.map D.int))
  | _ => False
theorem inD_ints {x : Int} : ∀ {xs : List Int}, inD (.int x) (xs.map D.int) = decide (x ∈ xs)
  | [] => by simp [inD]
  | y :: ys => by
    have ih := inD_ints (x := x) (xs := ys)
    unfold inD at ih ⊢
    rw [List.map_cons, List.any_cons, ih]
    show ((y == x) || decide (x ∈ ys)) = _
    by_cases h : y = x
    · simp [h]
    · have h' : ¬ x = y := fun z => h z.symm
      simp [h, h']
theorem flat_ints {xs : List Int} : (xs.map D.int).all D.flat = true := by
  rw [List.all_map]
  exact List.all_eq_true.mpr fun _ _ => rfl
/-- what is found, and what waits, on the way -/
structure Way (fs : List (List Int)) (n : Int) (f0 rs ws : List Int) : Prop where
  nd : rs.Nodup
  r : ∀ x ∈ rs, Rch fs n x
  w : ∀ x ∈ ws, Rch fs n x
  few : ws.length ≤ 5 + 5 * rs.length
  st : ∀ x ∈ f0, x ∈ rs ∨ x ∈ ws
  cl : ∀ x ∈ rs, ∀ f, fs[x.toNat]? = some f → ∀ y ∈ f, y ∈ rs ∨ y ∈ ws
theorem Way.len {ts : List D} {fs : List (List Int)} (g : Gr ts fs) {n : Int} {f0 rs ws : List Int} (h : Way fs n f0 rs ws) : rs.length ≤ fs.length := nodup_few h.nd fun x hx => (h.r x hx).val g
theorem Way.all {fs : List (List Int)} {n : Int} {f0 rs : List Int} (h : Way fs n f0 rs []) (e0 : fs[n.toNat]? = some f0) (x : Int) : x ∈ rs ↔ Rch fs n x := by
  refine ⟨h.r x, fun r => ?_⟩
  induction r with
  | one h1 _ m =>
    rw [e0] at h1
    cases h1
    rcases h.st _ m with q | q
    · exact q
    · cases q
  | more _ h1 _ m ih =>
    rcases h.cl _ ih _ h1 _ m with q | q
    · exact q
    · cases q
theorem Way.skip {fs : List (List Int)} {n b : Int} {f0 rs ws : List Int} (h : Way fs n f0 rs (ws ++ [b])) (hb : b ∈ rs) : Way fs n f0 rs ws := by
  have sw : ∀ y, y ∈ rs ∨ y ∈ ws ++ [b] → y ∈ rs ∨ y ∈ ws := fun y q => by
    rcases q with q | q
    · exact .inl q
    · rcases List.mem_append.mp q with q | q
      · exact .inr q
      · rw [List.mem_singleton.mp q]; exact .inl hb
  refine ⟨h.nd, h.r, fun x hx => h.w x (List.mem_append.mpr (.inl hx)), ?_, fun x hx => sw x (h.st x hx), fun x hx f hf y hy => sw y (h.cl x hx f hf y hy)⟩
  have := h.few
  rw [List.length_append] at this
  omega
theorem Way.go {ts : List D} {fs : List (List Int)} (g : Gr ts fs) {n b : Int} {f0 f rs ws : List Int} (h : Way fs n f0 rs (ws ++ [b])) (hb : b ∉ rs) (hf : fs[b.toNat]? = some f) : Way fs n f0 (rs ++ [b]) (ws ++ f) := by
  have rb : Rch fs n b := h.w b (List.mem_append.mpr (.inr List.mem_cons_self))
  have vb := rb.val g
  have sw : ∀ y, y ∈ rs ∨ y ∈ ws ++ [b] → y ∈ rs ++ [b] ∨ y ∈ ws ++ f := fun y q => by
    rcases q with q | q
    · exact .inl (List.mem_append.mpr (.inl q))
    · rcases List.mem_append.mp q with q | q
      · exact .inr (List.mem_append.mpr (.inl q))
      · exact .inl (List.mem_append.mpr (.inr q))
  refine ⟨?_, fun x hx => ?_, fun x hx => ?_, ?_, fun x hx => sw x (h.st x hx), fun x hx f' hf' y hy => ?_⟩
  · rw [List.nodup_append]
    exact ⟨h.nd, by simp, fun x hx y hy z => hb (by rw [← List.mem_singleton.mp hy, ← z]; exact hx)⟩
  · rcases List.mem_append.mp hx with q | q
    · exact h.r x q
    · rw [List.mem_singleton.mp q]; exact rb
  · rcases List.mem_append.mp hx with q | q
    · exact h.w x (List.mem_append.mpr (.inl q))
    · exact .more rb hf vb.1 q
  · have l1 := h.few
    have l2 : f.length ≤ fs.length := nodup_few (g.nd f (List.mem_of_getElem? hf)) (g.val f (List.mem_of_getElem? hf))
    have l3 := g.few
    rw [List.length_append] at l1
    rw [List.length_append, List.length_append, List.length_cons, List.length_nil]
    rw [List.length_cons, List.length_nil] at l1
    omega
  · rcases List.mem_append.mp hx with q | q
    · exact sw y (h.cl x q f' hf' y hy)
    · rw [List.mem_singleton.mp q, hf] at hf'
      cases hf'
      exact .inr (List.mem_append.mpr (.inr hy))
/-- the law's own way: a row that grows, walked from the left -/
structure Row (fs : List (List Int)) (n : Int) (f0 xs : List Int) (k : Nat) : Prop where
  nd : xs.Nodup
  r : ∀ x ∈ xs, Rch fs n x
  st : ∀ x ∈ f0, x ∈ xs
  cl : ∀ (i : Nat) (x : Int), i < k → xs[i]? = some x → ∀ f, fs[x.toNat]? = some f → ∀ y ∈ f, y ∈ xs
  le : k ≤ xs.length
theorem Row.len {ts : List D} {fs : List (List Int)} (g : Gr ts fs) {n : Int} {f0 xs : List Int} {k : Nat} (h : Row fs n f0 xs k) : xs.length ≤ fs.length := nodup_few h.nd fun x hx => (h.r x hx).val g
theorem Row.all {fs : List (List Int)} {n : Int} {f0 xs : List Int} {k : Nat} (h : Row fs n f0 xs k) (hk : xs.length ≤ k) (e0 : fs[n.toNat]? = some f0) (x : Int) : x ∈ xs ↔ Rch fs n x := by
  refine ⟨h.r x, fun r => ?_⟩
  induction r with
  | one h1 _ m =>
    rw [e0] at h1
    cases h1
    exact h.st _ m
  | more _ h1 _ m ih =>
    obtain ⟨i, hi⟩ := List.getElem?_of_mem ih
    have li := (List.getElem?_eq_some_iff.mp hi).1
    exact h.cl i _ (by omega) hi _ h1 _ m
theorem Row.go {ts : List D} {fs : List (List Int)} (g : Gr ts fs) {n : Int} {f0 xs f : List Int} {k : Nat} (h : Row fs n f0 xs k) (hk : k < xs.length) (hf : fs[xs[k].toNat]? = some f) : Row fs n f0 (xs ++ f.filter fun y => !decide (y ∈ xs)) (k + 1) := by
  have rk := h.r xs[k] (List.getElem_mem hk)
  have vk := rk.val g
  refine ⟨?_, fun x hx => ?_, fun x hx => List.mem_append.mpr (.inl (h.st x hx)), fun i x hi ei f' hf' y hy => ?_, by rw [List.length_append]; omega⟩
  · rw [List.nodup_append]
    refine ⟨h.nd, (g.nd f (List.mem_of_getElem? hf)).filter _, fun x hx y hy z => ?_⟩
    have := (List.mem_filter.mp hy).2
    rw [← z] at this
    simp [hx] at this
  · rcases List.mem_append.mp hx with q | q
    · exact h.r x q
    · exact .more rk hf vk.1 (List.mem_filter.mp q).1
  · have li : i < xs.length := by omega
    rw [List.getElem?_append_left li] at ei
    by_cases c : i < k
    · exact List.mem_append.mpr (.inl (h.cl i x c ei f' hf' y hy))
    · have : i = k := by omega
      subst this
      rw [List.getElem?_eq_getElem li] at ei
      cases ei
      rw [hf] at hf'
      cases hf'
      by_cases m : y ∈ xs
      · exact List.mem_append.mpr (.inl m)
      · exact List.mem_append.mpr (.inr (List.mem_filter.mpr ⟨hy, by simp [m]⟩))
theorem filter_ints {p : D → Bool} : ∀ {xs : List Int}, (xs.map D.int).filter p = (xs.filter fun x => p (.int x)).map D.int
  | [] => rfl
  | x :: xs => by
    rw [List.map_cons, List.filter_cons, List.filter_cons, filter_ints]
    by_cases h : p (.int x) = true <;> simp [h]
abbrev n_all_ahead : List Str := ["tasks", "number", "found", "waiting", "before"]
abbrev t_all_ahead : DTS := (dSeq (dOwn 2 (dLst dNil))
  (dSeq (dOwn 3 (dUn oList (dOp oIx (dOp oIx (dVar 0) (dVar 1)) (dDat (dC (.int 0))))))
  (dSeq (dWhile (dTru (dVar 3)) (dSeq (dSet 4 (dRel (dPop 3)))
  (dIf (dTst (dOp (oIn true) (dVar 4) (dVar 2))) (dSeq (dDrop (dApp 2 (dRel (dVar 4))))
  (dDrop (dExt 3 (dOp oIx (dOp oIx (dVar 0) (dVar 4)) (dDat (dC (.int 0))))))) dNext)))
  (dRet (dVar 2)))))
theorem rd_all_ahead : ∀ ds kk xx, ds.length = 2 → fAhead ds kk xx → t_all_ahead (dEnds kk) (env0 n_all_ahead ds) := by
  unfold t_all_ahead n_all_ahead
  rintro ds kk xx hl h
  match ds, hl, h with
  | [.tup ts, .int n], _, ⟨fs, g, ⟨n0, n1⟩, h⟩ =>
    obtain ⟨f0, l0, h0, e0, m0, t0⟩ := g.get n0 n1
    refine seq_d fun N hN => ?_
    clean_wf
    refine ⟨by omega, fun a => hN _ (seq_d fun N2 hN2 => ?_)⟩
    clean_wf
    rw [t0]
    clean_wf
    refine fun a2 => hN2 _ (seq_d fun N3 hN3 => ?_)
    refine while_d (fun e => ∃ (rs ws : List Int) (s : Sl), e = [.dat (.tup ts), .dat (.int n), .own a (rs.map D.int), .own a2 (ws.map D.int), s] ∧ Way fs n f0 rs ws) (fun e => match e with | [_, _, .own _ rs, .own _ ws, _] => (fs.length - rs.length) * 6 + ws.length | _ => 0) ?_ ?_
    · have l2 : f0.length ≤ fs.length := nodup_few (g.nd f0 m0) (g.val f0 m0)
      have l3 := g.few
      exact ⟨[], f0, _, rfl, ⟨List.nodup_nil, fun x hx => (by cases hx), fun x hx => .one e0 n0 hx, (by rw [List.length_nil]; omega), fun x hx => .inr hx, fun x hx => (by cases hx)⟩⟩
    rintro e ⟨rs, ws, s, rfl, wy⟩
    have lr := wy.len g
    have lf := g.few
    clean_wf
    rcases List.eq_nil_or_concat ws with rfl | ⟨ws, b, rfl⟩
    · rw [if_neg (by simp)]
      refine hN3 _ ?_
      clean_wf
      exact h rs (by omega) (wy.all e0)
    · rw [List.concat_eq_append] at wy ⊢
      rw [if_pos (by simp)]
      refine next_d ?_
      refine seq_d fun N4 hN4 => ?_
      clean_wf
      have ep : ((ws ++ [b]).map D.int)[((ws ++ [b]).map D.int).length - 1]? = some (.int b) := by simp
      rw [ep]
      clean_wf
      have ed : ((ws ++ [b]).map D.int).dropLast = ws.map D.int := by simp
      rw [ed]
      refine hN4 _ (if_d fun T U hT hU => ?_)
      clean_wf
      refine ⟨⟨rfl, flat_ints⟩, ?_⟩
      rw [inD_ints]
      by_cases hb : b ∈ rs
      · rw [decide_eq_true hb]
        clean_wf
        refine hU _ ?_
        clean_wf
        refine ⟨⟨rs, ws, _, rfl, wy.skip hb⟩, ?_⟩
        simp only [List.length_map, List.length_append, List.length_cons, List.length_nil]
        omega
      · rw [decide_eq_false hb]
        clean_wf
        have vb := (wy.w b (List.mem_append.mpr (.inr List.mem_cons_self))).val g
        obtain ⟨f, l, hh, ef, mf, tf⟩ := g.get vb.1 vb.2
        refine hT _ (seq_d fun N5 hN5 => ?_)
        clean_wf
        have wy2 := wy.go g hb ef
        have lr2 := wy2.len g
        have l2 := wy2.few
        rw [List.length_append] at lr2
        refine ⟨by rw [List.length_map]; omega, hN5 _ ?_⟩
        clean_wf
        rw [tf]
        clean_wf
        have l4 : f.length ≤ fs.length := nodup_few (g.nd f mf) (g.val f mf)
        have l5 := wy.few
        rw [List.length_append] at l5
        refine ⟨?_, ⟨rs ++ [b], ws ++ f, .dat (.int b), ?_, wy2⟩, ?_⟩
        · rw [List.length_map, List.length_map]
          omega
        · rw [List.map_append, List.map_append]
          rfl
        · simp only [List.length_map, List.length_append, List.length_cons, List.length_nil]
          simp only [List.length_cons, List.length_nil] at lr2
          omega
abbrev n__law_reach : List Str := ["_law_tasks_here", "_law_number", "_law_found", "_law_at", "_law_one_here"]
abbrev t__law_reach : DTS := (dSeq (dPar2 2 3 (dUn oList (dOp oIx (dOp oIx (dVar 0) (dVar 1)) (dDat (dC (.int 0))))) (dDat (dC (.int 0))))
  (dSeq (dWhile (dTst (dOp oLt (dVar 3) (dUn oLen (dVar 2)))) (dSeq (dDrop (dExt 2 (dLc (diSeq (dOp oIx (dOp oIx (dVar 0) (dOp oIx (dVar 2) (dVar 3))) (dDat (dC (.int 0))))) (dName 4) (dTst (dOp (oIn true) (dVar 4) (dVar 2))) (dRel (dVar 4)) [4])))
  (dSet 3 (dRel (dOp oAdd (dVar 3) (dDat (dC (.int 1))))))))
  (dRet (dVar 2))))
theorem rd__law_reach : ∀ ds kk xx, ds.length = 2 → fAhead ds kk xx → t__law_reach (dEnds kk) (env0 n__law_reach ds) := by
  unfold t__law_reach n__law_reach
  rintro ds kk xx hl h
  match ds, hl, h with
  | [.tup ts, .int n], _, ⟨fs, g, ⟨n0, n1⟩, h⟩ =>
    obtain ⟨f0, l0, h0, e0, m0, t0⟩ := g.get n0 n1
    refine seq_d fun N hN => ?_
    clean_wf
    rw [t0]
    clean_wf
    refine fun a => hN _ (seq_d fun N3 hN3 => ?_)
    refine while_d (fun e => ∃ (xs : List Int) (k : Nat), e = [.dat (.tup ts), .dat (.int n), .own a (xs.map D.int), .dat (.int k), .no] ∧ Row fs n f0 xs k) (fun e => match e with | [_, _, _, .dat (.int k), _] => (6 - k).toNat | _ => 0) ?_ ?_
    · exact ⟨f0, 0, rfl, ⟨g.nd f0 m0, fun x hx => .one e0 n0 hx, fun x hx => hx, fun i x hi => absurd hi (Nat.not_lt_zero i), Nat.zero_le _⟩⟩
    rintro e ⟨xs, k, rfl, wy⟩
    have lr := wy.len g
    have lf := g.few
    clean_wf
    by_cases hk : k < xs.length
    · rw [if_pos (by rw [List.length_map]; omega)]
      refine next_d ?_
      refine seq_d fun N4 hN4 => ?_
      have rk := wy.r xs[k] (List.getElem_mem hk)
      have vk := rk.val g
      obtain ⟨f, l, hh, ef, mf, tf⟩ := g.get vk.1 vk.2
      have l4 : f.length ≤ fs.length := nodup_few (g.nd f mf) (g.val f mf)
      have ea : L2.atI (xs.map D.int) (k : Int) = some (.int xs[k]) := by
        unfold L2.atI ixN
        rw [if_pos (by omega), if_pos (by rw [List.length_map]; omega)]
        show (xs.map D.int)[((k : Int)).toNat]? = _
        rw [Int.toNat_natCast, List.getElem?_map, List.getElem?_eq_getElem hk]
        rfl
      clean_wf
      simp only [dLc_eq]
      clean_wf
      rw [ea]
      clean_wf
      rw [tf]
      clean_wf
      refine lc_fil (fun y => !inD y (xs.map D.int)) rfl (by rw [List.length_map]; omega) (fun y hy q hq => ?_) ?_
      · obtain ⟨z, _, rfl⟩ := List.mem_map.mp hy
        unfold LcT
        clean_wf
        refine ⟨rfl, ⟨rfl, flat_ints⟩, ?_⟩
        by_cases c : inD (.int z) (xs.map D.int) = true
        · rw [c] at hq ⊢
          exact hq
        · rw [eq_false_of_ne_true c] at hq ⊢
          exact hq
      · clean_wf
        have wy2 := wy.go g hk ef
        have lr2 := wy2.len g
        rw [List.length_append] at lr2
        have ef2 : (f.map D.int).filter (fun y => !inD y (xs.map D.int)) = (f.filter fun y => !decide (y ∈ xs)).map D.int := by
          rw [filter_ints]
          simp only [inD_ints]
        rw [ef2]
        refine ⟨by rw [List.length_map, List.length_map]; omega, hN4 _ ?_⟩
        clean_wf
        refine ⟨⟨xs ++ f.filter (fun y => !decide (y ∈ xs)), k + 1, ?_, wy2⟩, ?_⟩
        · rw [List.map_append]
          rfl
        · omega
    · rw [if_neg (by rw [List.length_map]; omega)]
      refine hN3 _ ?_
      clean_wf
      exact h xs (by omega) (wy.all (by omega) e0)
end KK
namespace KK
open PySem PySem.Spec PyProof.Rows L2 LL DL K01
/-- BadPlan(number, word) -/
def bad (C : Addr) (n : D) (x : Str) : Er := ⟨C, ["word", "number"], [.str x, n]⟩
def okWk : D → Bool
  | .int i => decide (1 ≤ i) && decide (i ≤ 3)
  | _ => false
def fWk (C : Addr) : DF := fun ds k x => match ds with
  | [d] => d.small = true ∧ (okWk d = true → k .non) ∧ (okWk d = false → x (bad C .non "workers"))
  | _ => False
def rgI (n : Nat) : List Int := (List.range n).map fun i => ((i : Nat) : Int)
def okOrd (m : Nat) : D → Bool
  | .tup ds => ds.all (isNum m) && decide (sortI ((intsOf ds).getD []) = rgI m)
  | _ => false
def fOrd (C : Addr) : DF := fun ds k x => match ds with
  | [d, .int m] => (d.small = true ∧ 0 ≤ m ∧ m ≤ 5) ∧ (okOrd m.toNat d = true → k .non) ∧ (okOrd m.toNat d = false → x (bad C .non "order"))
  | _ => False
theorem eqvA_ints : ∀ xs ys : List Int, PyData.eqvAll (D.pys (xs.map D.int)) (D.pys (ys.map D.int)) = decide (xs = ys)
  | [], [] => rfl
  | [], _ :: _ => by simp [D.pys, PyData.eqvAll]
  | _ :: _, [] => by simp [D.pys, PyData.eqvAll]
  | x :: xs, y :: ys => by
    have ih := eqvA_ints xs ys
    simp only [List.map_cons, D.pys, D.py, PyData.eqvAll, PyData.eqv]
    rw [ih]
    by_cases h1 : x = y <;> by_cases h2 : xs = ys <;> simp [h1, h2]
theorem eqv_ints {xs ys : List Int} : PyData.eqv (D.lst (xs.map D.int)).py (D.lst (ys.map D.int)).py = decide (xs = ys) := by
  simp only [D.py, PyData.eqv]
  exact eqvA_ints xs ys
theorem rg_ints {n : Nat} : rgD 0 n = (rgI n).map D.int := by
  unfold rgD rgI
  rw [List.map_map]
  apply List.map_congr_left
  intro i _
  show D.int (0 + (i : Int)) = D.int (i : Int)
  rw [Int.zero_add]
abbrev n_check_workers : List Str := ["workers"]
abbrev t_check_workers (C_BadPlan : Addr) (xx : Er → Prop) : DTS := (dIf (dOr (dNot (dTst (dDat (dCall 1 fWhole (fun _ => False) (dCons (dRel (dVar 0)) dNil))))) (dNot (dTst (dChain oLe oLe (dDat (dC (.int 1))) (dVar 0) (dDat (dC (.int 3))))))) (dRaise2 C_BadPlan "number" "word" xx (dCons (dC .non) (dCons (dC (.str "workers")) dNil))) dNext)
theorem rd_check_workers {C_BadPlan : Addr} : ∀ xx ds kk, ds.length = 1 → (fWk C_BadPlan) ds kk xx → t_check_workers C_BadPlan xx (dEnds kk) (env0 n_check_workers ds) := by
  unfold t_check_workers n_check_workers
  intro xx
  rintro ds kk hl h
  match ds, hl, h with
  | [d], _, ⟨sm, h1, h2⟩ =>
    refine if_d fun T U hT hU => ?_
    clean_wf
    refine ⟨small_no sm, ?_⟩
    have no : isID d = false → okWk d = false := fun z => by cases d <;> first | rfl | cases z
    by_cases c : isID d = true
    · cases d with
      | int i =>
        simp only [isID]
        clean_wf
        have ew : okWk (.int i) = (decide (1 ≤ i) && decide (i ≤ 3)) := rfl
        rw [ew] at h1 h2
        by_cases c1 : 1 ≤ i
        · rw [if_pos c1]
          by_cases c2 : i ≤ 3
          · rw [if_neg (fun z => z c2)]
            exact hU _ (h1 (by rw [decide_eq_true c1, decide_eq_true c2]; rfl))
          · rw [if_pos c2]
            exact hT _ (h2 (by rw [decide_eq_true c1, decide_eq_false c2]; rfl))
        · rw [if_neg c1]
          exact hT _ (h2 (by rw [decide_eq_false c1]; rfl))
      | _ => cases c
    · rw [eq_false_of_ne_true c]
      clean_wf
      exact hT _ (h2 (no (eq_false_of_ne_true c)))
abbrev n_check_order : List Str := ["order", "many", "item"]
abbrev t_check_order (C_BadPlan : Addr) (xx : Er → Prop) : DTS := (dSeq (dIf (dOr (dNot (dTst (dUn (oIsi "tuple") (dVar 0)))) (dNot (dTst (dUn (oAll fun bs => bs.all id) (dLc (diSeq (dVar 0)) (dName 2) dYes (dCall 2 fIsNum (fun _ => False) (dCons (dRel (dVar 2)) (dCons (dRel (dVar 1)) dNil))) [2]))))) (dRaise2 C_BadPlan "number" "word" xx (dCons (dC .non) (dCons (dC (.str "order")) dNil))) dNext)
  (dIf (dTst (dOp oNe (dUn oSorted (dVar 0)) (dLstRg (dRel (dVar 1))))) (dRaise2 C_BadPlan "number" "word" xx (dCons (dC .non) (dCons (dC (.str "order")) dNil))) dNext))
theorem rd_check_order {C_BadPlan : Addr} : ∀ xx ds kk, ds.length = 2 → (fOrd C_BadPlan) ds kk xx → t_check_order C_BadPlan xx (dEnds kk) (env0 n_check_order ds) := by
  unfold t_check_order n_check_order
  intro xx
  rintro ds kk hl h
  match ds, hl, h with
  | [d, .int m], _, ⟨⟨sm, m0, m5⟩, h1, h2⟩ =>
    refine seq_d fun N hN => if_d fun T U hT hU => ?_
    clean_wf
    refine isi_tuple (small_no sm) ?_
    have no : isTD d = false → okOrd m.toNat d = false := fun z => by cases d <;> first | rfl | cases z
    by_cases c : isTD d = true
    · cases d with
      | tup ds =>
        obtain ⟨ln, sm'⟩ := small_tup sm
        simp only [isTD]
        clean_wf
        simp only [dLc_eq]
        clean_wf
        refine lc_map (fun d => .bl (isNum m d)) rfl ln (fun d hd k hk => ?_) ?_
        · unfold LcT
          clean_wf
          exact ⟨rfl, small_no (smalls_mem sm' hd), hk⟩
        · rw [show ds.map (fun d => D.bl (isNum m d)) = (ds.map (isNum m)).map D.bl by rw [List.map_map]; rfl]
          simp only [oal_n]
          clean_wf
          have em : ((m.toNat : Nat) : Int) = m := by omega
          have eo : okOrd m.toNat (.tup ds) = (ds.all (isNum m) && decide (sortI ((intsOf ds).getD []) = rgI m.toNat)) := by
            show (ds.all (isNum ((m.toNat : Nat) : Int)) && _) = _
            rw [em]
          by_cases ha : ds.all (isNum m) = true
          · have e1 : (ds.map (isNum m)).all id = true := by rw [List.all_map]; exact ha
            rw [e1]
            clean_wf
            refine hU _ (hN _ (if_d fun T2 U2 hT2 hU2 => ?_))
            obtain ⟨ns, rfl, _⟩ := ints_all ha
            rw [ha, Bool.true_and, intsOf_map, Option.getD_some] at eo
            clean_wf
            simp only [osrt_t]
            clean_wf
            rw [rg_ints]
            refine ⟨⟨m0, by omega⟩, eqOk_ints _, eqOk_ints _, ?_⟩
            rw [eqv_ints]
            by_cases c3 : sortI ns = rgI m.toNat
            · rw [decide_eq_true c3]
              clean_wf
              exact hU2 _ (h1 (by rw [eo, decide_eq_true c3]))
            · rw [decide_eq_false c3]
              clean_wf
              exact hT2 _ (h2 (by rw [eo, decide_eq_false c3]))
          · have e1 : (ds.map (isNum m)).all id = false := by rw [List.all_map]; exact eq_false_of_ne_true ha
            rw [e1]
            clean_wf
            exact hT _ (h2 (by rw [eo, eq_false_of_ne_true ha]; rfl))
      | _ => cases c
    · rw [eq_false_of_ne_true c]
      clean_wf
      exact hT _ (h2 (no (eq_false_of_ne_true c)))
end KK
namespace KK
open PySem PySem.Spec PyProof.Rows L2 LL DL K01
/-- the first wrong one of the tasks from the i-th on -/
def firstW (m : Int) : Nat → List D → Option (Nat × Str)
  | _, [] => none
  | i, t :: ts => match wordD i m t with
    | some x => some (i, x)
    | none => firstW m (i + 1) ts
theorem asc_nodup : ∀ {ns : List Int}, ascI ns = true → ns.Pairwise (· < ·)
  | [], _ => .nil
  | [x], _ => List.pairwise_singleton _ _
  | x :: y :: r, h => by
    have h' : (decide (x < y) && ascI (y :: r)) = true := h
    have z := Bool.and_eq_true_iff.mp h'
    have ih := asc_nodup z.2
    have xy : x < y := of_decide_eq_true z.1
    refine List.Pairwise.cons (fun w hw => ?_) ih
    rcases List.mem_cons.mp hw with q | q
    · rw [q]; exact xy
    · exact Int.lt_trans xy ((List.pairwise_cons.mp ih).1 w q)
/-- a right task -/
theorem word_none {n m : Int} {d : D} (h : wordD n m d = none) : ∃ (ns : List Int) (l g : D), d = .tup [.tup (ns.map D.int), l, g] ∧ ns.all (fun i => decide (0 ≤ i) && decide (i < m)) = true ∧ ns.Nodup ∧ isLow l = true ∧ isFD g = true ∧ lessD g l = false := by
  unfold wordD at h
  split at h
  · rename_i f l g
    by_cases c1 : (ascD m f && !hasD n f) = true
    · rw [if_pos c1] at h
      by_cases c2 : isLow l = true
      · rw [if_pos c2] at h
        by_cases c3 : (isFD g && !lessD g l) = true
        · have z1 := Bool.and_eq_true_iff.mp c1
          have z3 := Bool.and_eq_true_iff.mp c3
          obtain ⟨ns, rfl, q1, q2⟩ := ascD_ex z1.1
          refine ⟨ns, l, g, rfl, q1, ?_, c2, z3.1, by simpa using z3.2⟩
          exact (asc_nodup q2).imp fun h => Int.ne_of_lt h
        · rw [if_neg c3] at h; cases h
      · rw [if_neg c2] at h; cases h
    · rw [if_neg c1] at h; cases h
  · cases h
theorem firstW_none {m : Int} : ∀ {ts : List D} {i : Nat}, firstW m i ts = none → ∀ (j : Nat) (t : D), ts[j]? = some t → wordD ((i + j : Nat) : Int) m t = none
  | t :: ts, i, h, 0, t', e => by
    cases e
    unfold firstW at h
    show wordD (i : Int) m t = none
    cases q : wordD (i : Int) m t with
    | none => rfl
    | some x => rw [q] at h; cases h
  | t :: ts, i, h, j + 1, t', e => by
    unfold firstW at h
    cases q : wordD i m t with
    | none =>
      rw [q] at h
      have := firstW_none (i := i + 1) h j t' e
      rw [show i + (j + 1) = i + 1 + j by omega]
      exact this
    | some x => rw [q] at h; cases h
/-- right tasks have forerunners -/
theorem gr_of {ts : List D} (h5 : ts.length ≤ 5) (h : firstW ts.length 0 ts = none) : ∃ fs, Gr ts fs := by
  have all : ∀ (j : Nat) (t : D), ts[j]? = some t → ∃ (ns : List Int) (l g : D), t = .tup [.tup (ns.map D.int), l, g] ∧ ns.all (fun i => decide (0 ≤ i) && decide (i < (ts.length : Int))) = true ∧ ns.Nodup := fun j t e => by
    obtain ⟨ns, l, g, e1, e2, e3, _⟩ := word_none (firstW_none h j t e)
    exact ⟨ns, l, g, e1, e2, e3⟩
  let fo : D → List Int := fun t => match t with
    | .tup [.tup ds, _, _] => (intsOf ds).getD []
    | _ => []
  have fo_at : ∀ (ns : List Int) (l g : D), fo (.tup [.tup (ns.map D.int), l, g]) = ns := fun ns l g => by
    show (intsOf (ns.map D.int)).getD [] = ns
    rw [intsOf_map]
    rfl
  refine ⟨ts.map fo, by rw [List.length_map], fun i f e => ?_, fun f hf x hx => ?_, fun f hf => ?_, by rw [List.length_map]; exact h5⟩
  · rw [List.getElem?_map] at e
    cases q : ts[i]? with
    | none => rw [q] at e; cases e
    | some t =>
      rw [q] at e
      obtain ⟨ns, l, g, rfl, _⟩ := all i t q
      cases e
      rw [fo_at ns l g]
      exact ⟨l, g, rfl⟩
  · obtain ⟨t, ht, rfl⟩ := List.mem_map.mp hf
    obtain ⟨j, hj⟩ := List.getElem?_of_mem ht
    obtain ⟨ns, l, g, rfl, q, _⟩ := all j t hj
    rw [fo_at ns l g] at hx
    have := Bool.and_eq_true_iff.mp (List.all_eq_true.mp q x hx)
    rw [List.length_map]
    exact ⟨of_decide_eq_true this.1, of_decide_eq_true this.2⟩
  · obtain ⟨t, ht, rfl⟩ := List.mem_map.mp hf
    obtain ⟨j, hj⟩ := List.getElem?_of_mem ht
    obtain ⟨ns, l, g, rfl, _, q⟩ := all j t hj
    rw [fo_at ns l g]
    exact q
theorem ints_inj : ∀ {xs ys : List Int}, xs.map D.int = ys.map D.int → xs = ys
  | [], [], _ => rfl
  | [], _ :: _, h => by cases h
  | _ :: _, [], h => by cases h
  | x :: xs, y :: ys, h => by
    rw [List.map_cons, List.map_cons] at h
    injection h with h1 h2
    injection h1 with h1
    rw [h1, ints_inj h2]
theorem Gr.one {ts : List D} {fs gs : List (List Int)} (a : Gr ts fs) (b : Gr ts gs) : fs = gs := by
  apply List.ext_getElem?
  intro i
  cases q : fs[i]? with
  | none =>
    rw [List.getElem?_eq_none_iff] at q
    rw [List.getElem?_eq_none]
    rw [← b.len, a.len]
    exact q
  | some f =>
    obtain ⟨l, h, e⟩ := a.at_ i f q
    have li := (List.getElem?_eq_some_iff.mp q).1
    have lj : i < gs.length := by rw [← b.len, a.len]; exact li
    obtain ⟨l', h', e'⟩ := b.at_ i gs[i] (List.getElem?_eq_getElem lj)
    rw [e] at e'
    injection e' with e'
    injection e' with e'
    injection e' with e1 e2
    injection e1 with e1
    rw [List.getElem?_eq_getElem lj, ints_inj e1]
/-- tasks are forerunners of one another in a ring -/
def Ring (ts : List D) : Prop := ∃ fs, Gr ts fs ∧ ∃ n : Int, 0 ≤ n ∧ n < (fs.length : Int) ∧ Rch fs n n
open Classical in
noncomputable def tasksE : D → Option (D × Str)
  | .tup ts => if 1 ≤ ts.length ∧ ts.length ≤ 5 then (match firstW ts.length 0 ts with | some (i, x) => some (.int (i : Nat), x) | none => if Ring ts then some (.non, "ring") else none) else some (.non, "tasks")
  | _ => some (.non, "tasks")
theorem tasksE_w {ts : List D} {i : Nat} {x : Str} (c : 1 ≤ ts.length ∧ ts.length ≤ 5) (h : firstW ts.length 0 ts = some (i, x)) : tasksE (.tup ts) = some (D.int (i : Nat), x) := by
  dsimp only [tasksE]
  rw [if_pos c, h]
theorem tasksE_r {ts : List D} (c : 1 ≤ ts.length ∧ ts.length ≤ 5) (h : firstW ts.length 0 ts = none) (r : Ring ts) : tasksE (.tup ts) = some (D.non, ("ring" : Str)) := by
  dsimp only [tasksE]
  rw [if_pos c, h]
  exact if_pos r
theorem tasksE_n {ts : List D} (c : 1 ≤ ts.length ∧ ts.length ≤ 5) (h : firstW ts.length 0 ts = none) (r : ¬ Ring ts) : tasksE (.tup ts) = none := by
  dsimp only [tasksE]
  rw [if_pos c, h]
  exact if_neg r
theorem tasksE_b {ts : List D} (c : ¬ (1 ≤ ts.length ∧ ts.length ≤ 5)) : tasksE (.tup ts) = some (D.non, ("tasks" : Str)) := by
  dsimp only [tasksE]
  rw [if_neg c]
open Classical in
noncomputable def rAt (fs : List (List Int)) : D → Bool
  | .int n => decide (Rch fs n n)
  | _ => false
open Classical in
theorem rAt_iff {fs : List (List Int)} {n : Int} : rAt fs (.int n) = true ↔ Rch fs n n := decide_eq_true_iff
theorem rAt_any {ts : List D} {fs : List (List Int)} (g : Gr ts fs) : ((rgI ts.length).any fun n => rAt fs (.int n)) = true ↔ Ring ts := by
  constructor
  · intro h
    obtain ⟨n, hn, hr⟩ := List.any_eq_true.mp h
    unfold rgI at hn
    obtain ⟨i, hi, rfl⟩ := List.mem_map.mp hn
    have li := List.mem_range.mp hi
    exact ⟨fs, g, (i : Int), by omega, by rw [← g.len]; omega, rAt_iff.mp hr⟩
  · rintro ⟨gs, g', n, n0, n1, r⟩
    have e := g'.one g
    subst e
    refine List.any_eq_true.mpr ⟨n, ?_, rAt_iff.mpr r⟩
    unfold rgI
    exact List.mem_map.mpr ⟨n.toNat, List.mem_range.mpr (by rw [g.len]; omega), by omega⟩
def fTs (C : Addr) : DF := fun ds k x => match ds with
  | [d] => d.small = true ∧ (tasksE d = none → k .non) ∧ ∀ n y, tasksE d = some (n, y) → x (bad C n y)
  | _ => False
abbrev n_check_tasks : List Str := ["tasks", "number", "task", "word"]
abbrev t_check_tasks (C_BadPlan : Addr) (xx : Er → Prop) : DTS := (dSeq (dIf (dOr (dNot (dTst (dUn (oIsi "tuple") (dVar 0)))) (dNot (dTst (dChain oLe oLe (dDat (dC (.int 1))) (dUn oLen (dVar 0)) (dDat (dC (.int 5))))))) (dRaise2 C_BadPlan "number" "word" xx (dCons (dC .non) (dCons (dC (.str "tasks")) dNil))) dNext)
  (dSeq (dFor (diEn (dRel (dVar 0))) (dgTup 2 (dgCons (dName 1) (dgCons (dName 2) dgNil))) (dSeq (dSet 3 (dCall 3 fWord (fun _ => False) (dCons (dRel (dVar 2)) (dCons (dRel (dVar 1)) (dCons (dRel (dUn oLen (dVar 0))) dNil)))))
  (dIf (dTst (dOp (oIsN true) (dVar 3) (dDat (dC .non)))) (dRaise2 C_BadPlan "number" "word" xx (dCons (dRel (dVar 1)) (dCons (dRel (dVar 3)) dNil))) dNext)))
  (dIf (dTst (dUn (oAll fun bs => bs.any id) (dLc (diRg1 (dCons (dRel (dUn oLen (dVar 0))) dNil)) (dName 1) dYes (dRel (dOp (oIn false) (dVar 1) (dDat (dCall 2 fAhead (fun _ => False) (dCons (dRel (dVar 0)) (dCons (dRel (dVar 1)) dNil)))))) [1]))) (dRaise2 C_BadPlan "number" "word" xx (dCons (dC .non) (dCons (dC (.str "ring")) dNil))) dNext)))
theorem rd_check_tasks {C_BadPlan : Addr} : ∀ xx ds kk, ds.length = 1 → (fTs C_BadPlan) ds kk xx → t_check_tasks C_BadPlan xx (dEnds kk) (env0 n_check_tasks ds) := by
  unfold t_check_tasks n_check_tasks
  intro xx
  rintro ds kk hl h
  match ds, hl, h with
  | [d], _, ⟨sm, h1, h2⟩ =>
    refine seq_d fun N hN => if_d fun T U hT hU => ?_
    clean_wf
    refine isi_tuple (small_no sm) ?_
    have no : isTD d = false → tasksE d = some (D.non, ("tasks" : Str)) := fun z => by cases d <;> first | rfl | cases z
    by_cases c : isTD d = true
    · cases d with
      | tup ts =>
        obtain ⟨ln, sm'⟩ := small_tup sm
        simp only [isTD]
        clean_wf
        by_cases c5 : 1 ≤ ts.length ∧ ts.length ≤ 5
        · rw [if_pos (by omega), if_neg (by omega)]
          refine hU _ (hN _ (seq_d fun N2 hN2 => ?_))
          show dFor _ _ _ _ _
          refine ⟨fun i e => ∃ a b c : Sl, e = [.dat (.tup ts), a, b, c] ∧ a.ad = none ∧ firstW ts.length 0 ts = firstW ts.length i (ts.drop i), ⟨_, _, _, rfl, rfl, rfl⟩, ?_, ?_⟩
          · rintro i x e hi ⟨a, b, c, rfl, na, ei⟩
            have li : i < ts.length := by
              have := (List.getElem?_eq_some_iff.mp hi).1
              unfold enD at this
              rw [List.length_map, List.length_range] at this
              exact this
            have ex : x = .tup [.int ((i : Nat) : Int), ts[i]] := by
              unfold enD at hi
              rw [List.getElem?_map, List.getElem?_eq_getElem (by rw [List.length_range]; exact li)] at hi
              simp only [Option.map_some, List.getElem_range, List.getElem?_eq_getElem li, Option.getD_some] at hi
              exact (Option.some.inj hi).symm
            subst ex
            have ed : ts.drop i = ts[i] :: ts.drop (i + 1) := List.drop_eq_getElem_cons li
            clean_wf
            refine seq_d fun N3 hN3 => ?_
            clean_wf
            refine ⟨smalls_mem sm' (List.getElem_mem li), hN3 _ (if_d fun T4 U4 hT4 hU4 => ?_)⟩
            clean_wf
            have ef : firstW ts.length i (ts.drop i) = (match wordD (i : Int) ts.length ts[i] with | some x => some (i, x) | none => firstW ts.length (i + 1) (ts.drop (i + 1))) := by
              rw [ed]
              rfl
            cases ew : wordD (i : Int) ts.length ts[i] with
            | none =>
              rw [ew] at ef
              simp only [DL.isNon]
              clean_wf
              refine hU4 _ ⟨_, _, _, rfl, rfl, ?_⟩
              rw [ei, ef]
            | some y =>
              rw [ew] at ef
              simp only [DL.isNon]
              clean_wf
              refine hT4 _ ?_
              exact h2 _ _ (tasksE_w c5 (by rw [ei, ef]))
          · rintro e ⟨a, b, c, rfl, na, ei⟩
            have ll : (enD ts).length = ts.length := by
              unfold enD
              rw [List.length_map, List.length_range]
            rw [ll, List.drop_length] at ei
            have fw : firstW ts.length 0 ts = none := ei
            obtain ⟨fs, g⟩ := gr_of c5.2 fw
            refine hN2 _ (if_d fun T4 U4 hT4 hU4 => ?_)
            clean_wf
            simp only [dLc_eq]
            clean_wf
            refine ⟨by omega, by omega, ?_⟩
            rw [Int.toNat_natCast, rg_ints]
            have lg : (rgI ts.length).length = ts.length := by unfold rgI; rw [List.length_map, List.length_range]
            refine lc_map (fun d => .bl (rAt fs d)) ?_ (by rw [List.length_map, lg]; omega) (fun x hx k hk => ?_) ?_
            · show ([1].all fun v => (adAt [Sl.dat (.tup ts), a, b, c] v).isNone) = true
              have z : adAt [Sl.dat (.tup ts), a, b, c] 1 = none := na
              simp [z]
            · obtain ⟨n, hn, rfl⟩ := List.mem_map.mp hx
              unfold rgI at hn
              obtain ⟨i, hi, rfl⟩ := List.mem_map.mp hn
              have li := List.mem_range.mp hi
              unfold LcT
              clean_wf
              refine ⟨rfl, fs, g, ⟨by omega, by rw [← g.len]; omega⟩, fun rs l5 hrs => ?_⟩
              clean_wf
              refine ⟨⟨rfl, flat_ints⟩, ?_⟩
              rw [inD_ints]
              have e : decide (((i : Nat) : Int) ∈ rs) = rAt fs (.int (i : Nat)) := by
                rw [Bool.eq_iff_iff, decide_eq_true_iff]
                exact (hrs _).trans rAt_iff.symm
              rw [e]
              exact hk
            · rw [List.map_map, show (rgI ts.length).map ((fun d => D.bl (rAt fs d)) ∘ D.int) = ((rgI ts.length).map fun n => rAt fs (.int n)).map D.bl by rw [List.map_map]; rfl]
              simp only [oal_n]
              clean_wf
              rw [List.any_map]
              by_cases r : Ring ts
              · have q : ((rgI ts.length).any (id ∘ fun n => rAt fs (.int n))) = true := (rAt_any g).mpr r
                rw [q]
                clean_wf
                exact hT4 _ (h2 _ _ (tasksE_r c5 fw r))
              · have q : ((rgI ts.length).any (id ∘ fun n => rAt fs (.int n))) = false := eq_false_of_ne_true fun z => r ((rAt_any g).mp z)
                rw [q]
                clean_wf
                exact hU4 _ (h1 (tasksE_n c5 fw r))
        · have et := tasksE_b c5
          have z := hT [.dat (.tup ts), .no, .no, .no] (h2 _ _ et)
          by_cases c6 : (1 : Int) ≤ ((ts.length : Nat) : Int)
          · rw [if_pos c6, if_pos (by omega)]
            exact z
          · rw [if_neg c6]
            exact z
      | _ => cases c
    · rw [eq_false_of_ne_true c]
      clean_wf
      exact hT _ (h2 _ _ (no (eq_false_of_ne_true c)))
end KK
namespace KK
open PySem PySem.Spec PyProof.Rows L2 LL DL K01
open Classical in
noncomputable def fRing : DF := fun ds k _ => match ds with
  | [.tup ts] => (∃ fs, Gr ts fs) ∧ k (.bl (decide (Ring ts)))
  | _ => False
def okOrdL (m : Nat) : D → Bool
  | .tup ds => ds.all isID && decide (sortI ((intsOf ds).getD []) = rgI m)
  | _ => false
def fOrdL : DF := fun ds k _ => match ds with
  | [d, .int m] => (d.small = true ∧ 0 ≤ m ∧ m ≤ 5) ∧ k (.bl (okOrdL m.toNat d))
  | _ => False
theorem fil_any {α β : Type} {f : α → β} {p : α → Bool} : ∀ {xs : List α}, (!((xs.filter p).map f).isEmpty) = xs.any p
  | [] => rfl
  | x :: xs => by
    rw [List.any_cons, ← fil_any (f := f) (xs := xs), List.filter_cons]
    by_cases h : p x = true
    · simp [h]
    · simp [h]
theorem fil_emp {p : D → Bool} : ∀ {xs : List D}, (xs.filter fun d => !p d).isEmpty = xs.all p
  | [] => rfl
  | x :: xs => by
    rw [List.all_cons, ← fil_emp (xs := xs), List.filter_cons]
    by_cases h : p x = true
    · simp [h]
    · simp [h]
theorem ints_id : ∀ {ds : List D}, ds.all isID = true → ∃ ns : List Int, ds = ns.map D.int
  | [], _ => ⟨[], rfl⟩
  | d :: ds, h => by
    rw [List.all_cons] at h
    have z := Bool.and_eq_true_iff.mp h
    obtain ⟨ns, e⟩ := ints_id z.2
    cases d with
    | int i => exact ⟨i :: ns, by rw [e]; rfl⟩
    | _ => exact absurd z.1 Bool.false_ne_true
theorem ord_same {m : Nat} {d : D} : okOrdL m d = okOrd m d := by
  cases d with
  | tup ds =>
    show (ds.all isID && decide (sortI ((intsOf ds).getD []) = rgI m)) = (ds.all (isNum m) && decide (sortI ((intsOf ds).getD []) = rgI m))
    by_cases c : ds.all isID = true
    · obtain ⟨ns, rfl⟩ := ints_id c
      rw [c, intsOf_map, Option.getD_some]
      by_cases c2 : sortI ns = rgI m
      · have a : (ns.map D.int).all (isNum m) = true := by
          rw [List.all_map]
          refine List.all_eq_true.mpr fun x hx => ?_
          have pm : (sortI ns).Perm ns := List.mergeSort_perm _ _
          have hm : x ∈ rgI m := by rw [← c2]; exact pm.symm.subset hx
          unfold rgI at hm
          obtain ⟨i, hi, rfl⟩ := List.mem_map.mp hm
          have li := List.mem_range.mp hi
          show (decide (0 ≤ ((i : Nat) : Int)) && decide (((i : Nat) : Int) < (m : Int))) = true
          rw [decide_eq_true (by omega), decide_eq_true (by omega)]
          rfl
        rw [a]
      · rw [decide_eq_false c2, Bool.and_false, Bool.and_false]
    · have a : ds.all (isNum m) = false := eq_false_of_ne_true fun z => by
        obtain ⟨ns, rfl, _⟩ := ints_all z
        apply c
        rw [List.all_map]
        exact List.all_eq_true.mpr fun _ _ => rfl
      rw [eq_false_of_ne_true c, a]
  | _ => rfl
abbrev n__law_has_ring : List Str := ["_law_tasks_here", "_law_number"]
abbrev t__law_has_ring : DTS := (dRet (dOp (oNil true) (dLc (diRg1 (dCons (dRel (dUn oLen (dVar 0))) dNil)) (dName 1) (dTst (dOp (oIn false) (dVar 1) (dDat (dCall 2 fAhead (fun _ => False) (dCons (dRel (dVar 0)) (dCons (dRel (dVar 1)) dNil)))))) (dRel (dVar 1)) [1]) (dLst dNil)))
theorem rd__law_has_ring : ∀ ds kk xx, ds.length = 1 → fRing ds kk xx → t__law_has_ring (dEnds kk) (env0 n__law_has_ring ds) := by
  unfold t__law_has_ring n__law_has_ring
  rintro ds kk xx hl h
  match ds, hl, h with
  | [.tup ts], _, ⟨⟨fs, g⟩, h⟩ =>
    have l5 := g.few
    have lt := g.len
    clean_wf
    simp only [dLc_eq]
    clean_wf
    refine ⟨by omega, by omega, ?_⟩
    rw [Int.toNat_natCast, rg_ints]
    have lg : (rgI ts.length).length = ts.length := by unfold rgI; rw [List.length_map, List.length_range]
    refine lc_fil (fun d => rAt fs d) rfl (by rw [List.length_map, lg]; omega) (fun x hx k hk => ?_) ?_
    · obtain ⟨n, hn, rfl⟩ := List.mem_map.mp hx
      unfold rgI at hn
      obtain ⟨i, hi, rfl⟩ := List.mem_map.mp hn
      have li := List.mem_range.mp hi
      unfold LcT
      clean_wf
      refine ⟨rfl, fs, g, ⟨by omega, by rw [← g.len]; omega⟩, fun rs l5 hrs => ?_⟩
      clean_wf
      refine ⟨⟨rfl, flat_ints⟩, ?_⟩
      rw [inD_ints]
      have e : decide (((i : Nat) : Int) ∈ rs) = rAt fs (.int (i : Nat)) := by
        rw [Bool.eq_iff_iff, decide_eq_true_iff]
        exact (hrs _).trans rAt_iff.symm
      rw [e]
      by_cases c : rAt fs (.int (i : Nat)) = true
      · rw [c] at hk ⊢
        exact hk
      · rw [eq_false_of_ne_true c] at hk ⊢
        exact hk
    · rw [filter_ints]
      clean_wf
      refine ⟨by omega, ?_⟩
      rw [fil_any]
      have e : ((rgI ts.length).any fun n => rAt fs (.int n)) = @decide (Ring ts) (Classical.propDecidable _) := by
        rw [Bool.eq_iff_iff, rAt_any g]
        exact (@decide_eq_true_iff (Ring ts) (Classical.propDecidable _)).symm
      rw [e]
      exact h
abbrev n__law_is_order : List Str := ["_law_value", "_law_many", "_law_one_here"]
abbrev t__law_is_order : DTS := (dSeq (dIf (dOr (dNot (dTst (dUn (oIsi "tuple") (dVar 0)))) (dTst (dOp (oNil true) (dLc (diSeq (dVar 0)) (dName 2) (dNot (dTst (dDat (dCall 1 fWhole (fun _ => False) (dCons (dRel (dVar 2)) dNil))))) (dRel (dVar 2)) [2]) (dLst dNil)))) (dRet (dDat (dC (.bl false)))) dNext)
  (dRet (dOp oEq (dUn oSorted (dVar 0)) (dLstRg (dRel (dVar 1))))))
theorem rd__law_is_order : ∀ ds kk xx, ds.length = 2 → fOrdL ds kk xx → t__law_is_order (dEnds kk) (env0 n__law_is_order ds) := by
  unfold t__law_is_order n__law_is_order
  rintro ds kk xx hl h
  match ds, hl, h with
  | [d, .int m], _, ⟨⟨sm, m0, m5⟩, h⟩ =>
    refine seq_d fun N hN => if_d fun T U hT hU => ?_
    clean_wf
    refine isi_tuple (small_no sm) ?_
    by_cases c : isTD d = true
    · cases d with
      | tup ds =>
        obtain ⟨ln, sm'⟩ := small_tup sm
        simp only [isTD]
        clean_wf
        simp only [dLc_eq]
        clean_wf
        refine lc_fil (fun d => !isID d) rfl ln (fun d hd k hk => ?_) ?_
        · unfold LcT
          clean_wf
          refine ⟨rfl, small_no (smalls_mem sm' hd), ?_⟩
          clean_wf
          by_cases c : isID d = true
          · rw [c] at hk ⊢
            exact hk
          · rw [eq_false_of_ne_true c] at hk ⊢
            exact hk
        · clean_wf
          refine ⟨by omega, ?_⟩
          rw [fil_emp]
          have e0 : okOrdL m.toNat (.tup ds) = (ds.all isID && decide (sortI ((intsOf ds).getD []) = rgI m.toNat)) := rfl
          rw [e0] at h
          by_cases c : ds.all isID = true
          · rw [c] at h ⊢
            clean_wf
            obtain ⟨ns, rfl⟩ := ints_id c
            rw [intsOf_map, Option.getD_some, Bool.true_and] at h
            refine hU _ (hN _ ?_)
            clean_wf
            simp only [osrt_t]
            clean_wf
            rw [rg_ints]
            refine ⟨⟨m0, by omega⟩, eqOk_ints _, eqOk_ints _, ?_⟩
            rw [eqv_ints]
            exact h
          · rw [eq_false_of_ne_true c] at h ⊢
            clean_wf
            exact hT _ h
      | _ => cases c
    · rw [eq_false_of_ne_true c]
      clean_wf
      refine hT _ ?_
      have e : okOrdL m.toNat d = false := by cases d <;> first | rfl | exact absurd rfl c
      rw [e] at h
      exact h
end KK
namespace KK
open PySem PySem.Spec PyProof.Rows L2 LL DL K01
theorem gcd_lo {a b : Int} (h : b ≠ 0) : Int.gcd (K01.lo a b).1 (K01.lo a b).2 = 1 := by
  have g := gcd_pos a b h
  have da : (Int.gcd a b : Int) ∣ a := Int.gcd_dvd_left ..
  have db : (Int.gcd a b : Int) ∣ b := Int.gcd_dvd_right ..
  show Int.gcd (sg b * a / (Int.gcd a b : Int)) (sg b * b / (Int.gcd a b : Int)) = 1
  have ha : Int.gcd (sg b * a / (Int.gcd a b : Int)) (sg b * b / (Int.gcd a b : Int)) = Int.gcd (a / (Int.gcd a b : Int)) (b / (Int.gcd a b : Int)) := by
    unfold sg
    split
    · rw [Int.one_mul, Int.one_mul]
    · rw [Int.neg_one_mul, Int.neg_one_mul, Int.neg_ediv_of_dvd da, Int.neg_ediv_of_dvd db, Int.gcd_neg, Int.neg_gcd]
  rw [ha]
  exact Int.gcd_ediv_gcd_ediv_gcd (by omega)
/-- the same quotient -/
theorem lo_cross {a b : Int} (h : b ≠ 0) : (K01.lo a b).1 * b = a * (K01.lo a b).2 := by
  have g := gcd_pos a b h
  have da : (Int.gcd a b : Int) ∣ sg b * a := sg_dvd b (Int.gcd_dvd_left ..)
  have db : (Int.gcd a b : Int) ∣ sg b * b := sg_dvd b (Int.gcd_dvd_right ..)
  have e1 : (K01.lo a b).1 * (Int.gcd a b : Int) = sg b * a := Int.ediv_mul_cancel da
  have e2 : (K01.lo a b).2 * (Int.gcd a b : Int) = sg b * b := Int.ediv_mul_cancel db
  have gn : (Int.gcd a b : Int) ≠ 0 := by omega
  apply Int.eq_of_mul_eq_mul_right gn
  calc (K01.lo a b).1 * b * (Int.gcd a b : Int) = ((K01.lo a b).1 * (Int.gcd a b : Int)) * b := by rw [Int.mul_assoc, Int.mul_comm b, ← Int.mul_assoc]
    _ = a * ((K01.lo a b).2 * (Int.gcd a b : Int)) := by rw [e1, e2, Int.mul_comm (sg b) a, Int.mul_assoc]
    _ = a * (K01.lo a b).2 * (Int.gcd a b : Int) := by rw [Int.mul_assoc]
theorem lo_top {a b : Int} (ha : 0 < a) (hb : 0 < b) : 0 < (K01.lo a b).1 := by
  have q := lo_cross (a := a) (b := b) (by omega)
  have b2 := lo_bottom (a := a) (b := b) (by omega)
  have p : 0 < a * (K01.lo a b).2 := Int.mul_pos ha b2
  rw [← q] at p
  exact Int.pos_of_mul_pos_left p hb
/-- a low and a high as they are drawn -/
structure Span (p q : Int × Int) : Prop where
  low : isLow (frD p) = true
  high : isFD (frD q) = true
  le : lessD (frD q) (frD p) = false
  b1 : p.1.natAbs < 2 ^ 60
  b2 : p.2.natAbs < 2 ^ 60
  b3 : q.1.natAbs < 2 ^ 125
  b4 : q.2.natAbs < 2 ^ 125
theorem frac_isF {a b : Int} (h : b ≠ 0) : isFD (frD (K01.lo a b)) = true := by
  show (decide (1 ≤ (K01.lo a b).2) && decide (Int.gcd (K01.lo a b).1 (K01.lo a b).2 = 1)) = true
  have b2 := lo_bottom (a := a) (b := b) h
  rw [decide_eq_true (by omega), decide_eq_true (gcd_lo h)]
  rfl
/-- a drawn low -/
structure LowP (p : Int × Int) : Prop where
  t : 0 < p.1
  u : 0 < p.2
  g : Int.gcd p.1 p.2 = 1
  b1 : p.1 < 2 ^ 60
  b2 : p.2 < 2 ^ 60
theorem lowP {a b : Int} (ha : 0 < a) (hb : 0 < b) (la : a ≤ 2 * 10 ^ 9) (lb : b ≤ 2 * 10 ^ 9) : LowP (K01.lo a b) := by
  have h := lo_abs (a := a) (b := b) (by omega)
  have h1 := lo_top ha hb
  have h2 := lo_bottom (a := a) (b := b) (by omega)
  have h3 : (2 : Int) * 10 ^ 9 < 2 ^ 60 := by decide
  exact ⟨h1, h2, gcd_lo (by omega), by omega, by omega⟩
theorem LowP.span {p : Int × Int} (h : LowP p) {c d : Int} (hc : 0 ≤ c) (hd : 0 < d) (bc : c < 2 ^ 60) (bd : d < 2 ^ 60) : Span p (K01.lo (p.1 * d + c * p.2) (p.2 * d)) := by
  have t := h.t
  have u := h.u
  have y0 : 0 < p.2 * d := Int.mul_pos u hd
  have y : p.2 * d ≠ 0 := by omega
  have m : ∀ x z : Int, 0 ≤ x → 0 ≤ z → x < 2 ^ 60 → z < 2 ^ 60 → x * z < 2 ^ 120 := fun x z x0 z0 hx hz => by
    have e1 : x * z ≤ 2 ^ 60 * z := Int.mul_le_mul_of_nonneg_right (by omega) z0
    have e2 : (2 : Int) ^ 60 * z < 2 ^ 60 * 2 ^ 60 := Int.mul_lt_mul_of_pos_left hz (by decide)
    have e3 : (2 : Int) ^ 60 * 2 ^ 60 = 2 ^ 120 := by decide
    omega
  have m1 := m p.1 d (by omega) (by omega) h.b1 bd
  have m2 := m c p.2 hc (by omega) bc h.b2
  have m3 := m p.2 d (by omega) (by omega) h.b2 bd
  have n1 : 0 ≤ p.1 * d := Int.mul_nonneg (by omega) (by omega)
  have n2 : 0 ≤ c * p.2 := Int.mul_nonneg hc (by omega)
  have la := lo_abs (a := p.1 * d + c * p.2) (b := p.2 * d) y
  have k1 : (2 : Int) ^ 120 + 2 ^ 120 < 2 ^ 125 := by decide
  have k2 : (2 : Nat) ^ 125 = ((2 : Int) ^ 125).toNat := by decide
  have b2 := lo_bottom (a := p.1 * d + c * p.2) (b := p.2 * d) y
  refine ⟨?_, frac_isF y, ?_, ?_, ?_, ?_, ?_⟩
  · show (isFD (frD p) && decide (0 < p.1)) = true
    have e : isFD (frD p) = true := by
      show (decide (1 ≤ p.2) && decide (Int.gcd p.1 p.2 = 1)) = true
      rw [decide_eq_true (by omega), decide_eq_true h.g]
      rfl
    rw [e, decide_eq_true t]
    rfl
  · show decide ((K01.lo (p.1 * d + c * p.2) (p.2 * d)).1 * p.2 < p.1 * (K01.lo (p.1 * d + c * p.2) (p.2 * d)).2) = false
    refine decide_eq_false fun z => ?_
    have q := lo_cross (a := p.1 * d + c * p.2) (b := p.2 * d) y
    have z2 := Int.mul_lt_mul_of_pos_right z hd
    have q2 : (K01.lo (p.1 * d + c * p.2) (p.2 * d)).1 * p.2 * d = p.1 * (K01.lo (p.1 * d + c * p.2) (p.2 * d)).2 * d + c * p.2 * (K01.lo (p.1 * d + c * p.2) (p.2 * d)).2 := by
      rw [Int.mul_assoc, q, Int.add_mul]
      congr 1
      rw [Int.mul_assoc, Int.mul_assoc, Int.mul_comm d]
    have n3 : 0 ≤ c * p.2 * (K01.lo (p.1 * d + c * p.2) (p.2 * d)).2 := Int.mul_nonneg n2 (by omega)
    omega
  · have := h.b1
    have k : (2 : Nat) ^ 60 = ((2 : Int) ^ 60).toNat := by decide
    omega
  · have := h.b2
    have k : (2 : Nat) ^ 60 = ((2 : Int) ^ 60).toNat := by decide
    omega
  · omega
  · omega
theorem take_ok {n : Int} (n0 : 0 < n) (n1 : n ≤ 10 ^ 9) : 0 < n ∧ n.natAbs.log2 < 9000 := by
  have h : (10 : Int) ^ 9 ≤ 10 ^ 18 := by decide
  have k : ((10 : Int) ^ 18).toNat = 10 ^ 18 := by decide
  exact ⟨n0, log_small (by omega)⟩
theorem bd_of {n : Int} (h0 : 0 ≤ n) (h : n ≤ 2 * 10 ^ 9) : Bd n := by
  have h1 : (2 : Int) * 10 ^ 9 < 2 ^ 60 := by decide
  have k : ((2 : Int) ^ 60).toNat ≤ 2 ^ 200 := by decide
  show n.natAbs < 2 ^ 200
  omega
def fSpan : DF := fun ds k _ => match ds with
  | [] => ∀ p q, Span p q → k (.tup [frD p, frD q])
  | _ => False
abbrev n__law_span : List Str := ["_law_deck_here", "_law_low", "_law_some"]
abbrev t__law_span : DTS := (dSeq (dSet 1 (dCall 2 fFrac (fun _ => False) (dCons (dRel (dOp oAdd (dDat (dC (.int 1))) (dDat (dCallB 0 1 fTake (dCons (dC (.int 6)) dNil))))) (dCons (dRel (dOp oAdd (dDat (dC (.int 1))) (dDat (dCallB 0 1 fTake (dCons (dC (.int 3)) dNil))))) dNil))))
  (dSeq (dIf (dTst (dOp oEq (dDat (dCallB 0 1 fTake (dCons (dC (.int 12)) dNil))) (dDat (dC (.int 0))))) (dSet 1 (dCall 2 fFrac (fun _ => False) (dCons (dRel (dOp oAdd (dDat (dC (.int 1))) (dDat (dCallB 0 1 fTake (dCons (dRel (dOp oPow (dDat (dC (.int 10))) (dDat (dC (.int 9))))) dNil))))) (dCons (dRel (dOp oAdd (dDat (dC (.int 1))) (dDat (dCallB 0 1 fTake (dCons (dRel (dOp oPow (dDat (dC (.int 10))) (dDat (dC (.int 9))))) dNil))))) dNil)))) dNext)
  (dSeq (dSet 2 (dRel (dNew [(.tup [(.int 0), (.int 1)]), (.tup [(.int 0), (.int 1)]), (.tup [(.int 1), (.int 1)]), (.tup [(.int 2), (.int 1)]), (.tup [(.int 1), (.int 2)]), (.tup [(.int 5), (.int 1)]), (.tup [(.int ((10 ^ 9) + 1)), (.int (10 ^ 9))])])))
  (dRet (dDat (dTup (dCons (dRel (dVar 1)) (dCons (dCall 2 fPlus (fun _ => False) (dCons (dRel (dVar 1)) (dCons (dCallB 0 1 fOne (dCons (dRel (dVar 2)) dNil)) dNil))) dNil))))))))
theorem rd__law_span : ∀ b ds kk xx, ds.length = 0 → fSpan ds kk xx → t__law_span (bEnds b kk) (envB b n__law_span ds) := by
  unfold t__law_span n__law_span
  rintro b ds kk xx hl h
  match ds, hl, h with
  | [], _, h =>
    have h : ∀ p q, Span p q → kk (.tup [frD p, frD q]) := h
    have k9 : (10 : Int) ^ (9 : Int).toNat = 10 ^ 9 := rfl
    have p9 : (0 : Int) < 10 ^ 9 := by decide
    refine seq_d fun N hN => ?_
    have rest : ∀ p, LowP p → ∀ D : DEnds, (D.rt = fun rv e => e[0]? = some (.bag b) ∧ rv.ret kk) → True := fun _ _ _ _ => trivial
    clean_wf
    refine ⟨take_ok (by decide) (by decide), fun m1 a0 a1 => ?_⟩
    clean_wf
    refine ⟨take_ok (by decide) (by decide), fun m2 b0 b1 => ?_⟩
    clean_wf
    have i9 : (6 : Int) ≤ 10 ^ 9 := by decide
    refine ⟨⟨by omega, bd_of (by omega) (by omega), bd_of (by omega) (by omega)⟩, hN _ (seq_d fun N2 hN2 => if_d fun T U hT hU => ?_)⟩
    have fin : ∀ p, LowP p → N2 [.bag b, .dat (frD p), .no] := fun p hp => hN2 _ (by
      refine seq_d fun N3 hN3 => ?_
      simp_wf
      refine hN3 _ ?_
      simp_wf
      refine ⟨⟨by decide, by decide⟩, fun d hd => ?_⟩
      have dd : ∃ c e : Int, d = .tup [.int c, .int e] ∧ 0 ≤ c ∧ 0 < e ∧ c < 2 ^ 60 ∧ e < 2 ^ 60 := by
        simp only [List.mem_cons, List.not_mem_nil, or_false] at hd
        rcases hd with rfl | rfl | rfl | rfl | rfl | rfl | rfl
        all_goals exact ⟨_, _, rfl, by decide, by decide, by decide, by decide⟩
      obtain ⟨c, e, rfl, c0, e0, c1, e1⟩ := dd
      have sp := hp.span c0 e0 c1 e1
      have q1 := hp.b1
      have q2 := hp.b2
      have q3 := hp.t
      have q4 := hp.u
      have kn : ((2 : Int) ^ 60).toNat = 2 ^ 60 := by decide
      refine ⟨plus_ok (i := 60) (j := 60) (by omega) (by omega) (by omega) (by omega) (by omega) (by omega) (by decide), ?_⟩
      exact h _ _ sp)
    have lw := lowP (a := 1 + m1) (b := 1 + m2) (by omega) (by omega) (by omega) (by omega)
    clean_wf
    refine ⟨take_ok (by decide) (by decide), fun m3 c0 c1 => ?_⟩
    clean_wf
    by_cases hm : m3 = 0
    · rw [if_pos hm]
      refine hT _ ?_
      clean_wf
      rw [k9]
      refine ⟨⟨by decide, by decide, by decide⟩, take_ok p9 (Int.le_refl _), fun m4 d0 d1 => ?_⟩
      clean_wf
      refine ⟨⟨by decide, by decide, by decide⟩, take_ok p9 (Int.le_refl _), fun m5 f0 f1 => ?_⟩
      clean_wf
      refine ⟨⟨by omega, bd_of (by omega) (by omega), bd_of (by omega) (by omega)⟩, fin _ (lowP (by omega) (by omega) (by omega) (by omega))⟩
    · rw [if_neg hm]
      exact hU _ (fin _ lw)
end KK
namespace KK
open PySem PySem.Spec PyProof.Rows L2 LL DL K01
def fWith : DF := fun ds k _ => match ds with
  | [.tup ts, .int n, d] => (ts.length ≤ 5 ∧ 0 ≤ n ∧ n < ts.length) ∧ k (.tup (ts.set n.toNat d))
  | _ => False
theorem cut_to {ds : List D} {n : Int} (n0 : 0 ≤ n) : DL.cutD ds none (some n) = ds.take n.toNat := by
  obtain ⟨m, rfl⟩ := Int.eq_ofNat_of_zero_le n0
  unfold DL.cutD
  rw [HT.sIx_none, HT.sIx_nat]
  rw [List.drop_zero, Nat.sub_zero]
  rw [Int.toNat_natCast]
  rw [List.take_eq_take_iff]
  omega
theorem cut_from {ds : List D} {n : Int} (n0 : 0 ≤ n) : DL.cutD ds (some n) none = ds.drop n.toNat := by
  obtain ⟨m, rfl⟩ := Int.eq_ofNat_of_zero_le n0
  unfold DL.cutD
  rw [HT.sIx_none, HT.sIx_nat]
  rw [Int.toNat_natCast]
  by_cases h : m ≤ ds.length
  · rw [Nat.min_eq_left h]
    exact List.take_of_length_le (by rw [List.length_drop]; omega)
  · rw [Nat.min_eq_right (by omega), List.drop_eq_nil_of_le (Nat.le_refl _), List.drop_eq_nil_of_le (by omega)]
    exact List.take_nil
theorem set_cut {ds : List D} {d : D} : ∀ {ts : List D} {i : Nat}, i < ts.length → ts.take i ++ [d] ++ ts.drop (i + 1) = ts.set i d
  | t :: ts, 0, _ => rfl
  | t :: ts, i + 1, h => by
    show t :: (ts.take i ++ [d] ++ ts.drop (i + 1)) = t :: ts.set i d
    rw [set_cut (ds := ds) (by rw [List.length_cons] at h; omega)]
def dueE (a b : D) : D := .lst [.str "bad", a, b, .bl true, .bl false]
def fDueE : DF := fun ds k _ => match ds with
  | [.tup [a, b]] => k (dueE a b)
  | _ => False
abbrev n__law_with : List Str := ["_law_tasks_here", "_law_number", "_law_task"]
abbrev t__law_with : DTS := (dRet (dOp oAdd (dOp oAdd (dSl (dVar 0) doNone (doSome (dRel (dVar 1)))) (dDat (dTup (dCons (dRel (dVar 2)) dNil)))) (dSl (dVar 0) (doSome (dRel (dOp oAdd (dVar 1) (dDat (dC (.int 1)))))) doNone)))
theorem rd__law_with : ∀ ds kk xx, ds.length = 3 → fWith ds kk xx → t__law_with (dEnds kk) (env0 n__law_with ds) := by
  unfold t__law_with n__law_with
  rintro ds kk xx hl h
  match ds, hl, h with
  | [.tup ts, .int n, d], _, ⟨⟨l5, n0, n1⟩, h⟩ =>
    clean_wf
    have e1 := cut_to (ds := ts) n0
    have e2 := cut_from (ds := ts) (n := n + 1) (by omega)
    rw [e1, e2]
    have l1 := List.length_take (i := n.toNat) (l := ts)
    have l2 := List.length_drop (i := (n + 1).toNat) (l := ts)
    refine ⟨by decide, by omega, by rw [List.length_append, List.length_singleton]; omega, ?_⟩
    rw [show (n + 1).toNat = n.toNat + 1 by omega, set_cut (ds := []) (by omega)]
    exact h
abbrev n__law_due_error : List Str := ["_law_found"]
abbrev t__law_due_error : DTS := (dRet (dLst (dCons (dC (.str "bad")) (dCons (dRel (dOp oIx (dVar 0) (dDat (dC (.int 0))))) (dCons (dRel (dOp oIx (dVar 0) (dDat (dC (.int 1))))) (dCons (dC (.bl true)) (dCons (dC (.bl false)) dNil)))))))
theorem rd__law_due_error : ∀ ds kk xx, ds.length = 1 → fDueE ds kk xx → t__law_due_error (dEnds kk) (env0 n__law_due_error ds) := by
  unfold t__law_due_error n__law_due_error
  rintro ds kk xx hl h
  match ds, hl, h with
  | [.tup [a, b]], _, h =>
    have h : kk (dueE a b) := h
    clean_wf
    exact ⟨by decide, h⟩
end KK
namespace KK
open PySem PySem.Spec PyProof.Rows L2 LL DL K01
/-- what task_word calls a wrong forerunner -/
def wrongF (n m : Int) : D → Bool
  | .int i => !(decide (0 ≤ i) && decide (i < m)) || decide (i = n)
  | _ => true
theorem wrong_nil {n m : Int} : ∀ {as : List D}, (as.filter (wrongF n m)).isEmpty = (as.all (isNum m) && !inD (.int n) as)
  | [] => rfl
  | a :: as => by
    have ih := wrong_nil (n := n) (m := m) (as := as)
    have e : inD (.int n) (a :: as) = (eqF a (.int n) || inD (.int n) as) := rfl
    rw [List.filter_cons, List.all_cons, e]
    have key : wrongF n m a = !(isNum m a && !eqF a (.int n)) := by
      cases a <;> simp [wrongF, isNum, eqF]
      rename_i i
      by_cases q : i = n <;> simp [q]
    rw [key]
    by_cases c : (isNum m a && !eqF a (.int n)) = true
    · have z := Bool.and_eq_true_iff.mp c
      have z2 : eqF a (.int n) = false := by simpa using z.2
      rw [c, z.1, z2]
      simpa using ih
    · rw [eq_false_of_ne_true c]
      cases h1 : isNum m a with
      | false => simp
      | true =>
        rw [h1] at c
        have z2 : eqF a (.int n) = true := by simpa using c
        rw [z2]
        simp
theorem ascI_iff : ∀ {ns : List Int}, ascI ns = true ↔ ∀ i, i + 1 < ns.length → ns.getD i 0 < ns.getD (i + 1) 0
  | [] => by simp [ascI]
  | [x] => by simp [ascI]
  | x :: y :: r => by
    have e : ascI (x :: y :: r) = (decide (x < y) && ascI (y :: r)) := rfl
    have ih := ascI_iff (ns := y :: r)
    rw [e, Bool.and_eq_true_iff, ih, decide_eq_true_iff]
    constructor
    · rintro ⟨h0, h⟩ i hi
      cases i with
      | zero => exact h0
      | succ i => exact h i (by simpa using hi)
    · intro h
      exact ⟨h 0 (by simp), fun i hi => h (i + 1) (by simpa using hi)⟩
def notUp (ns : List Int) : D → Bool
  | .int k => decide (ns.getD k.toNat 0 ≤ ns.getD (k.toNat - 1) 0)
  | _ => false
theorem notUp_nil {ns : List Int} : ((rgD 1 (ns.length - 1)).filter (notUp ns)).isEmpty = ascI ns := by
  rw [Bool.eq_iff_iff, ascI_iff, List.isEmpty_iff, List.filter_eq_nil_iff]
  unfold rgD
  constructor
  · intro h i hi
    have := h (.int (1 + (i : Nat))) (List.mem_map.mpr ⟨i, List.mem_range.mpr (by omega), rfl⟩)
    simp only [notUp, decide_eq_true_iff] at this
    rw [show ((1 : Int) + (i : Nat)).toNat = i + 1 by omega] at this
    simpa using this
  · intro h d hd
    obtain ⟨i, hi, rfl⟩ := List.mem_map.mp hd
    have := h i (by have := List.mem_range.mp hi; omega)
    simp only [notUp, decide_eq_true_iff]
    rw [show ((1 : Int) + (i : Nat)).toNat = i + 1 by omega]
    simpa using this
theorem pick_if {p : Prop} [Decidable p] {b : Bool} {k : Option D → Prop} {d : D} (e : b = decide p) (h : k (if b = true then some d else none)) : if p then k (some d) else k none := by
  subst e
  by_cases q : p
  · rw [if_pos q]; rw [decide_eq_true q] at h; exact h
  · rw [if_neg q]; rw [decide_eq_false q] at h; exact h
theorem atI_ints {ns : List Int} {k : Int} (h0 : 0 ≤ k) (h1 : k < ns.length) : L2.atI (ns.map D.int) k = some (.int (ns.getD k.toNat 0)) := by
  have l : k.toNat < ns.length := by omega
  unfold L2.atI ixN
  rw [if_pos h0, if_pos (by rw [List.length_map]; exact h1)]
  show (ns.map D.int)[k.toNat]? = _
  rw [List.getElem?_map, List.getElem?_eq_getElem l, List.getD_eq_getElem?_getD, List.getElem?_eq_getElem l]
  rfl
abbrev n__law_task_word : List Str := ["_law_value", "_law_number", "_law_many", "_law_ahead", "_law_low", "_law_high", "_law_wrong", "_law_one_here", "_law_k"]
abbrev t__law_task_word : DTS := (dSeq (dIf (dOr (dNot (dTst (dUn (oIsi "tuple") (dVar 0)))) (dTst (dOp oNe (dUn oLen (dVar 0)) (dDat (dC (.int 3)))))) (dRet (dDat (dC (.str "task")))) dNext)
  (dSeq (dAsg (dRel (dVar 0)) (dgTup 3 (dgCons (dName 3) (dgCons (dName 4) (dgCons (dName 5) dgNil)))))
  (dSeq (dIf (dNot (dTst (dUn (oIsi "tuple") (dVar 3)))) (dRet (dDat (dC (.str "forerunners")))) dNext)
  (dSeq (dSetLc 6 (dLc (diSeq (dVar 3)) (dName 7) (dOr (dNot (dTst (dDat (dCall 1 fWhole (fun _ => False) (dCons (dRel (dVar 7)) dNil))))) (dOr (dNot (dTst (dChain oLe oLt (dDat (dC (.int 0))) (dVar 7) (dVar 2)))) (dTst (dOp oEq (dVar 7) (dVar 1))))) (dRel (dVar 7)) [7]))
  (dSeq (dIf (dOr (dTst (dOp (oNil true) (dVar 6) (dLst dNil))) (dTst (dOp (oNil true) (dLc (diRg2 (dCons (dC (.int 1)) (dCons (dRel (dUn oLen (dVar 3))) dNil))) (dName 8) (dTst (dOp oGe (dOp oIx (dVar 3) (dOp oSub (dVar 8) (dDat (dC (.int 1))))) (dOp oIx (dVar 3) (dVar 8)))) (dRel (dVar 8)) [8]) (dLst dNil)))) (dRet (dDat (dC (.str "forerunners")))) dNext)
  (dSeq (dIf (dOr (dNot (dTst (dDat (dCall 1 fIsF (fun _ => False) (dCons (dRel (dVar 4)) dNil))))) (dTst (dOp oLe (dOp oIx (dVar 4) (dDat (dC (.int 0)))) (dDat (dC (.int 0)))))) (dRet (dDat (dC (.str "low")))) dNext)
  (dSeq (dIf (dOr (dNot (dTst (dDat (dCall 1 fIsF (fun _ => False) (dCons (dRel (dVar 5)) dNil))))) (dTst (dDat (dCall 2 fLess (fun _ => False) (dCons (dRel (dVar 5)) (dCons (dRel (dVar 4)) dNil)))))) (dRet (dDat (dC (.str "high")))) dNext)
  (dRet (dDat (dC (.str "")))))))))))
theorem rd__law_task_word : ∀ ds kk xx, ds.length = 3 → fWordL ds kk xx → t__law_task_word (dEnds kk) (env0 n__law_task_word ds) := by
  unfold t__law_task_word n__law_task_word
  rintro ds kk xx hl h
  match ds, hl, h with
  | [d, .int n, .int m], _, ⟨sm, h⟩ =>
    refine seq_d fun N hN => if_d fun T U hT hU => ?_
    clean_wf
    refine isi_tuple (small_no sm) ?_
    by_cases c0 : ∃ f l g, d = .tup [f, l, g]
    · obtain ⟨f, l, g, rfl⟩ := c0
      obtain ⟨_, sm'⟩ := small_tup sm
      have sf : f.small = true := smalls_mem sm' List.mem_cons_self
      have sl : l.small = true := smalls_mem sm' (List.mem_cons_of_mem _ List.mem_cons_self)
      have sg : g.small = true := smalls_mem sm' (List.mem_cons_of_mem _ (List.mem_cons_of_mem _ List.mem_cons_self))
      have ew : wordD n m (.tup [f, l, g]) = (if (ascD m f && !hasD n f) = true then (if isLow l = true then (if (isFD g && !lessD g l) = true then none else some ("high" : Str)) else some ("low" : Str)) else some ("forerunners" : Str)) := rfl
      rw [ew] at h
      simp only [isTD]
      clean_wf
      rw [if_neg (by simp)]
      refine hU _ (hN _ (seq_d fun N2 hN2 => ?_))
      clean_wf
      refine hN2 _ (seq_d fun N3 hN3 => if_d fun T3 U3 hT3 hU3 => ?_)
      clean_wf
      refine isi_tuple (small_no sf) ?_
      by_cases c1 : isTD f = true
      · cases f with
        | tup as =>
          obtain ⟨la, sa⟩ := small_tup sf
          simp only [isTD]
          clean_wf
          refine hU3 _ (hN3 _ (seq_d fun N4 hN4 => ?_))
          clean_wf
          simp only [dLc_eq]
          clean_wf
          refine lc_fil (wrongF n m) rfl la (fun x hx k hk => ?_) ?_
          · unfold LcT
            clean_wf
            have sx := smalls_mem sa hx
            refine ⟨rfl, small_no sx, ?_⟩
            cases x with
            | int i =>
              simp only [isID]
              clean_wf
              have hk' : k (if (!(decide (0 ≤ i) && decide (i < m)) || decide (i = n)) = true then some (.int i) else none) := hk
              by_cases q1 : 0 ≤ i
              · rw [if_pos q1]
                by_cases q2 : i < m
                · rw [if_neg (by omega)]
                  by_cases q3 : i = n
                  · simpa [q1, q2, q3] using hk'
                  · simpa [q1, q2, q3] using hk'
                · rw [if_pos (by omega)]
                  simpa [q1, q2] using hk'
              · rw [if_neg q1]
                simpa [q1] using hk'
            | _ => simp only [isID]; clean_wf; exact hk
          · clean_wf
            refine hN4 _ (seq_d fun N5 hN5 => if_d fun T5 U5 hT5 hU5 => ?_)
            clean_wf
            rw [wrong_nil]
            have ea : ascD m (.tup as) = (as.all (isNum m) && ascI ((intsOf as).getD [])) := rfl
            have eh : hasD n (.tup as) = inD (.int n) as := rfl
            rw [ea, eh] at h
            by_cases c2 : (as.all (isNum m) && !inD (.int n) as) = true
            · rw [c2]
              have z := Bool.and_eq_true_iff.mp c2
              have z2 : inD (.int n) as = false := by simpa using z.2
              obtain ⟨ns, rfl, q⟩ := ints_all z.1
              rw [intsOf_map, Option.getD_some, z.1, z2] at h
              simp_wf
              simp only [dLc_eq]
              simp_wf
              have lm : (ns.map D.int).length = ns.length := List.length_map ..
              have e2 : (((ns.map D.int).length : Nat) - (1 : Int)).toNat = ns.length - 1 := by omega
              rw [e2]
              refine ⟨by omega, lc_fil (notUp ns) rfl (by unfold rgD; rw [List.length_map, List.length_range]; omega) (fun x hx k hk => ?_) ?_⟩
              · unfold rgD at hx
                obtain ⟨i, hi, rfl⟩ := List.mem_map.mp hx
                have li := List.mem_range.mp hi
                unfold LcT
                simp_wf
                rw [atI_ints (by omega) (by omega)]
                simp_wf
                rw [atI_ints (by omega) (by omega)]
                simp_wf
                have e3 : ((1 : Int) + (i : Nat) - 1).toNat = i := by omega
                have e4 : ((1 : Int) + (i : Nat)).toNat = i + 1 := by omega
                have hk' : k (if decide (ns.getD ((1 : Int) + (i : Nat)).toNat 0 ≤ ns.getD (((1 : Int) + (i : Nat)).toNat - 1) 0) = true then some (.int (1 + (i : Nat))) else none) := hk
                rw [e4] at hk'
                rw [e3, e4]
                exact pick_if rfl hk'
              · simp_wf
                rw [notUp_nil]
                by_cases c3 : ascI ns = true
                · rw [c3] at h ⊢
                  simp_wf
                  refine hU5 _ (hN5 _ (seq_d fun N6 hN6 => if_d fun T6 U6 hT6 hU6 => ?_))
                  simp_wf
                  refine ⟨small_okF sl, ?_⟩
                  by_cases c4 : isFD l = true
                  · obtain ⟨a, b, rfl, b1, gq⟩ := isFD_ex c4
                    rw [c4]
                    simp_wf
                    by_cases c5 : a ≤ 0
                    · rw [if_pos c5]
                      refine hT6 _ ?_
                      have el : isLow (.tup [.int a, .int b]) = false := by
                        show (isFD (.tup [.int a, .int b]) && decide (0 < a)) = false
                        rw [c4, decide_eq_false (by omega)]
                        rfl
                      rw [el] at h
                      exact h
                    · rw [if_neg c5]
                      have el : isLow (.tup [.int a, .int b]) = true := by
                        show (isFD (.tup [.int a, .int b]) && decide (0 < a)) = true
                        rw [c4, decide_eq_true (by omega)]
                        rfl
                      rw [el] at h
                      refine hU6 _ (hN6 _ (seq_d fun N7 hN7 => if_d fun T7 U7 hT7 hU7 => ?_))
                      simp_wf
                      refine ⟨small_okF sg, ?_⟩
                      by_cases c6 : isFD g = true
                      · obtain ⟨p, q, rfl, q1', gq⟩ := isFD_ex c6
                        rw [c6]
                        simp_wf
                        obtain ⟨_, s1⟩ := small_tup sg
                        obtain ⟨_, s2⟩ := small_tup sl
                        refine ⟨⟨small_bd (smalls_mem s1 List.mem_cons_self), small_bd (smalls_mem s1 (List.mem_cons_of_mem _ List.mem_cons_self)), small_bd (smalls_mem s2 List.mem_cons_self), small_bd (smalls_mem s2 (List.mem_cons_of_mem _ List.mem_cons_self))⟩, ?_⟩
                        simp_wf
                        have e5 : lessD (.tup [.int p, .int q]) (.tup [.int a, .int b]) = decide (p * b < a * q) := rfl
                        rw [c6, e5] at h
                        by_cases c7 : p * b < a * q
                        · rw [if_pos c7]
                          refine hT7 _ ?_
                          rw [decide_eq_true c7] at h
                          exact h
                        · rw [if_neg c7]
                          refine hU7 _ (hN7 _ ?_)
                          rw [decide_eq_false c7] at h
                          exact h
                      · rw [eq_false_of_ne_true c6]
                        simp_wf
                        refine hT7 _ ?_
                        rw [eq_false_of_ne_true c6] at h
                        exact h
                  · rw [eq_false_of_ne_true c4]
                    simp_wf
                    refine hT6 _ ?_
                    have el : isLow l = false := by
                      unfold isLow
                      split
                      · rw [eq_false_of_ne_true c4]; rfl
                      · rfl
                    rw [el] at h
                    exact h
                · rw [eq_false_of_ne_true c3] at h ⊢
                  simp_wf
                  refine hT5 _ ?_
                  simp_wf
                  simpa using h
            · rw [eq_false_of_ne_true c2]
              simp_wf
              refine hT5 _ ?_
              simp_wf
              have e : (as.all (isNum m) && ascI ((intsOf as).getD []) && !inD (.int n) as) = false := by
                cases h1 : as.all (isNum m) with
                | false => rfl
                | true =>
                  rw [h1] at c2
                  have : inD (.int n) as = true := by simpa using c2
                  rw [this]
                  simp
              rw [e] at h
              simpa using h
        | _ => cases c1
      · rw [eq_false_of_ne_true c1]
        clean_wf
        refine hT3 _ ?_
        clean_wf
        have e : ascD m f = false := by cases f <;> first | rfl | exact absurd rfl c1
        rw [e] at h
        simpa using h
    · have e : wordD n m d = some "task" := by
        cases d with
        | tup es =>
          refine wordD_len fun z => ?_
          match es, z with
          | [f, l, g], _ => exact c0 ⟨f, l, g, rfl⟩
        | _ => rfl
      rw [e] at h
      by_cases c1 : isTD d = true
      · cases d with
        | tup es =>
          simp only [isTD]
          clean_wf
          rw [if_pos fun z => c0 ?_]
          · exact hT _ h
          · match es, z with
            | [f, l, g], _ => exact ⟨f, l, g, rfl⟩
        | _ => cases c1
      · rw [eq_false_of_ne_true c1]
        clean_wf
        exact hT _ h
end KK
namespace KK
open PySem PySem.Spec PyProof.Rows L2 LL DL K01
/-- a drawn task: its forerunners stand ahead of it in the line -/
structure TaskD (m : Nat) (line : List Int) (i : Nat) (d : D) : Prop where
  ex : ∃ (ns : List Int) (p q : Int × Int), d = .tup [.tup (ns.map D.int), frD p, frD q] ∧ ns.Pairwise (· < ·) ∧ (∀ x ∈ ns, x ∈ line ∧ line.idxOf x < line.idxOf ((i : Nat) : Int)) ∧ Span p q
def TasksD (m : Nat) (ts : List D) : Prop := ts.length = m ∧ ∃ line : List Int, line.Perm (rgI m) ∧ ∀ i d, ts[i]? = some d → TaskD m line i d
def fTasks : DF := fun ds k _ => match ds with
  | [.int m] => (1 ≤ m ∧ m ≤ 5) ∧ ∀ ts, TasksD m.toNat ts → k (.tup ts)
  | _ => False
theorem rgI_len {n : Nat} : (rgI n).length = n := by unfold rgI; rw [List.length_map, List.length_range]
theorem rgI_nodup {n : Nat} : (rgI n).Nodup := by
  unfold rgI
  refine List.Pairwise.map _ (fun a b h => ?_) List.nodup_range
  intro z
  exact h (by omega)
theorem mem_rgI {n : Nat} {x : Int} : x ∈ rgI n ↔ 0 ≤ x ∧ x < n := by
  unfold rgI
  rw [List.mem_map]
  constructor
  · rintro ⟨i, hi, rfl⟩
    have := List.mem_range.mp hi
    omega
  · rintro ⟨h0, h1⟩
    exact ⟨x.toNat, List.mem_range.mpr (by omega), by omega⟩
theorem rgD_get {lo : Int} {n i : Nat} {d : D} (h : (rgD lo n)[i]? = some d) : i < n ∧ d = .int (lo + (i : Nat)) := by
  unfold rgD at h
  rw [List.getElem?_map] at h
  cases q : (List.range n)[i]? with
  | none => rw [q] at h; cases h
  | some j =>
    obtain ⟨l, e⟩ := List.getElem?_eq_some_iff.mp q
    rw [List.getElem_range] at e
    rw [q] at h
    cases h
    rw [List.length_range] at l
    exact ⟨l, by rw [e]⟩
theorem flat_ints' {ns : List Int} : (ns.map D.int).all D.flat = true := by
  rw [List.all_map]
  exact List.all_eq_true.mpr fun _ _ => rfl
theorem cut_ints {ns : List Int} {j : Nat} : DL.cutD (ns.map D.int) none (some (j : Int)) = (ns.take j).map D.int := by
  rw [cut_to (by omega), Int.toNat_natCast, List.map_take]
theorem idxD_ints {n : Int} : ∀ {ns : List Int}, n ∈ ns → idxD (.int n) (ns.map D.int) = some (ns.idxOf n)
  | x :: xs, h => by
    show (if eqF (.int x) (.int n) = true then some 0 else (idxD (.int n) (xs.map D.int)).map (· + 1)) = _
    by_cases c : x = n
    · subst c
      rw [if_pos (by simp [eqF])]
      simp
    · rw [if_neg (by simpa [eqF] using c)]
      have hm : n ∈ xs := by
        rcases List.mem_cons.mp h with h | h
        · exact absurd h.symm c
        · exact h
      rw [idxD_ints hm, List.idxOf_cons]
      have : (x == n) = false := by simpa using c
      rw [this]
      rfl
theorem sortI_pw {ns : List Int} (h : ns.Nodup) : (sortI ns).Pairwise (· < ·) := by
  have hp : (sortI ns).Perm ns := List.mergeSort_perm _ _
  have hn : (sortI ns).Nodup := hp.nodup_iff.mpr h
  have hs : (sortI ns).Pairwise (fun a b => decide (a ≤ b) = true) := List.pairwise_mergeSort (fun a b c h1 h2 => by simp at *; omega) (fun a b => by simp; omega) ns
  have hb := hs.and hn
  exact hb.imp fun h => by
    have h1 : _ ≤ _ := of_decide_eq_true h.1
    have h2 := h.2
    omega
theorem take_idx {n x : Int} {line : List Int} (nd : line.Nodup) (h : x ∈ line.take (line.idxOf n)) : x ∈ line ∧ line.idxOf x < line.idxOf n := by
  have m := List.mem_of_mem_take h
  refine ⟨m, ?_⟩
  obtain ⟨i, hi, e⟩ := List.getElem_of_mem h
  rw [List.length_take] at hi
  rw [List.getElem_take] at e
  have : line.idxOf x = i := by
    rw [← e]
    exact nd.idxOf_getElem i (by omega)
  omega
abbrev n__law_tasks : List Str := ["_law_deck_here", "_law_many", "_law_line", "_law_much", "_law_tasks_here", "_law_number", "_law_ahead", "_law_found", "_law_one_here"]
abbrev t__law_tasks : DTS := (dSeq (dPar3 2 3 4 (dCallB 0 1 fMixed (dCons (dRel (dLstRg (dRel (dVar 1)))) dNil)) (dCallB 0 1 fTake (dCons (dC (.int 4)) dNil)) (dLst dNil))
  (dSeq (dFor (diRg1 (dCons (dRel (dVar 1)) dNil)) (dName 5) (dSeq (dSet 6 (dRel (dSl (dVar 2) doNone (doSome (dRel (dIndex (dRel (dVar 2)) (dRel (dVar 5))))))))
  (dSeq (dSet 7 (dRel (dUn oSorted (dLc (diSeq (dVar 6)) (dName 8) (dTst (dOp oLt (dDat (dCallB 0 1 fTake (dCons (dC (.int 6)) dNil))) (dVar 3))) (dRel (dVar 8)) [8]))))
  (dDrop (dApp 4 (dRel (dOp oAdd (dDat (dTup (dCons (dRel (dUn oTuple (dVar 7))) dNil))) (dDat (dCallB 0 0 fSpan dNil)))))))))
  (dRet (dUn oTuple (dVar 4)))))
theorem rd__law_tasks : ∀ b ds kk xx, ds.length = 1 → fTasks ds kk xx → t__law_tasks (bEnds b kk) (envB b n__law_tasks ds) := by
  unfold t__law_tasks n__law_tasks
  rintro b ds kk xx hl h
  match ds, hl, h with
  | [.int m], _, ⟨⟨m1, m5⟩, h⟩ =>
    refine seq_d fun N hN => ?_
    simp_wf
    refine ⟨by omega, rgI m.toNat, rg_ints, by rw [rgI_len]; omega, fun line pm => ?_⟩
    refine ⟨take_ok (by decide) (by decide), fun much u0 u1 a => hN _ (seq_d fun N2 hN2 => ?_)⟩
    have ll : line.length = m.toNat := by rw [pm.length_eq, rgI_len]
    have nd : line.Nodup := pm.nodup_iff.mpr rgI_nodup
    simp only [dFor_eq]
    simp_wf
    refine ⟨by omega, by omega, for_in (fun i e => ∃ ts x y z, e = [.bag b, .dat (.int m), .dat (.lst (line.map D.int)), .dat (.int much), .own a ts, x, y, z, .no] ∧ ts.length = i ∧ ∀ j d, ts[j]? = some d → TaskD m.toNat line j d) ⟨[], _, _, _, rfl, rfl, fun j d z => by simp at z⟩ ?_ ?_⟩
    · rintro i d e hd ⟨ts, x, y, z, rfl, lt, hts⟩ N3 hN3
      obtain ⟨il, rfl⟩ := rgD_get hd
      rw [Int.zero_add] at hd ⊢
      have mem : ((i : Nat) : Int) ∈ line := pm.symm.subset (mem_rgI.mpr ⟨by omega, by omega⟩)
      have li : line.idxOf ((i : Nat) : Int) < line.length := List.idxOf_lt_length_of_mem mem
      simp_wf
      refine seq_d fun N4 hN4 => ?_
      simp_wf
      rw [idxD_ints mem]
      dsimp only
      rw [cut_ints]
      refine ⟨⟨rfl, flat_ints'⟩, hN4 _ (seq_d fun N5 hN5 => ?_)⟩
      simp_wf
      simp only [dLc_eq]
      simp_wf
      have lk : ((line.take (line.idxOf ((i : Nat) : Int))).map D.int).length ≤ 5 := by rw [List.length_map, List.length_take]; omega
      refine ⟨rfl, by omega, fun j acc => ∃ ns : List Int, acc = ns.map D.int ∧ ns.Sublist ((line.take (line.idxOf ((i : Nat) : Int))).take j), ⟨[], rfl, List.nil_sublist _⟩, ?_, ?_⟩
      · rintro j d acc hd lacc ⟨ns, rfl, sub⟩
        rw [List.getElem?_map] at hd
        obtain ⟨x, hx, rfl⟩ : ∃ x, (line.take (line.idxOf ((i : Nat) : Int)))[j]? = some x ∧ D.int x = d := by
          cases q : (line.take (line.idxOf ((i : Nat) : Int)))[j]? with
          | none => rw [q] at hd; cases hd
          | some x => rw [q] at hd; cases hd; exact ⟨x, rfl, rfl⟩
        have up : ((line.take (line.idxOf ((i : Nat) : Int))).take (j + 1)) = ((line.take (line.idxOf ((i : Nat) : Int))).take j) ++ [x] := by
          rw [List.take_add_one, hx]
          rfl
        simp_wf
        refine ⟨take_ok (by decide) (by decide), fun u v0 v1 => ?_⟩
        simp_wf
        by_cases c : u < much
        · rw [if_pos c]
          exact ⟨ns ++ [x], by simp, by rw [up]; exact sub.append (List.Sublist.refl _)⟩
        · rw [if_neg c]
          exact ⟨ns, rfl, by rw [up]; exact sub.trans (List.sublist_append_left _ _)⟩
      · rintro acc lacc ⟨ns, rfl, sub⟩
        simp only [osrt_n]
        simp_wf
        have sub2 := sub.trans (List.take_sublist _ _)
        have np : (sortI ns).Perm ns := List.mergeSort_perm _ _
        have ndn : ns.Nodup := nd.sublist (sub2.trans (List.take_sublist _ _))
        refine hN5 _ ?_
        simp_wf
        intro p q sp
        simp_wf
        refine ⟨by omega, hN3 _ ⟨ts ++ [.tup [.tup ((sortI ns).map D.int), frD p, frD q]], _, _, _, rfl, by simp [lt], fun j d hj => ?_⟩⟩
        rw [List.getElem?_append] at hj
        by_cases c : j < ts.length
        · rw [if_pos c] at hj
          exact hts j d hj
        · rw [if_neg c] at hj
          have j0 : j - ts.length = 0 := by
            have := (List.getElem?_eq_some_iff.mp hj).1
            rw [List.length_singleton] at this
            omega
          rw [j0] at hj
          cases hj
          have ej : j = i := by omega
          subst ej
          exact ⟨sortI ns, p, q, rfl, sortI_pw ndn, fun x hx => take_idx nd (sub2.subset (np.subset hx)), sp⟩
    · rintro e ⟨ts, x, y, z, rfl, lt, hts⟩
      refine hN2 _ ?_
      simp_wf
      unfold rgD at lt
      rw [List.length_map, List.length_range] at lt
      exact h ts ⟨lt, line, pm, hts⟩
end KK
namespace KK
open PySem PySem.Spec PyProof.Rows L2 LL DL K01
def OrdD (m : Nat) (d : D) : Prop := ∃ ns : List Int, d = .tup (ns.map D.int) ∧ ns.Perm (rgI m)
/-- the parts of a drawn plan -/
def fParts : DF := fun ds k _ => match ds with
  | [] => ∀ m ts o w, 1 ≤ m → m ≤ 5 → TasksD m ts → OrdD m o → 1 ≤ w → w ≤ 3 → k (.lst [.tup ts, o, .int w])
  | _ => False
def fOdd : DF := fun ds k _ => match ds with
  | [] => ∀ d, Fit 131 300 6 d → k d
  | _ => False
abbrev n__law_parts : List Str := ["_law_deck_here", "_law_many", "_law_tasks_here"]
abbrev t__law_parts : DTS := (dSeq (dSet 1 (dCallB 0 1 fOne (dCons (dRel (dNew [(.int 1), (.int 2), (.int 3), (.int 4), (.int 5), (.int 5), (.int 5), (.int 4)])) dNil)))
  (dSeq (dSet 2 (dCallB 0 1 fTasks (dCons (dRel (dVar 1)) dNil)))
  (dRet (dLst (dCons (dRel (dVar 2)) (dCons (dRel (dUn oTuple (dDat (dCallB 0 1 fMixed (dCons (dRel (dLstRg (dRel (dVar 1)))) dNil))))) (dCons (dRel (dOp oAdd (dDat (dC (.int 1))) (dDat (dCallB 0 1 fTake (dCons (dC (.int 3)) dNil))))) dNil)))))))
theorem rd__law_parts : ∀ b ds kk xx, ds.length = 0 → fParts ds kk xx → t__law_parts (bEnds b kk) (envB b n__law_parts ds) := by
  unfold t__law_parts n__law_parts
  rintro b ds kk xx hl h
  match ds, hl, h with
  | [], _, h =>
    refine seq_d fun N hN => ?_
    simp_wf
    refine ⟨⟨by decide, by decide⟩, fun d hd => ?_⟩
    obtain ⟨m, rfl, m1, m5⟩ : ∃ m : Int, d = .int m ∧ 1 ≤ m ∧ m ≤ 5 := by
      simp only [List.mem_cons, List.not_mem_nil, or_false] at hd
      rcases hd with rfl | rfl | rfl | rfl | rfl | rfl | rfl | rfl
      all_goals exact ⟨_, rfl, by decide, by decide⟩
    refine hN _ (seq_d fun N2 hN2 => ?_)
    simp_wf
    refine ⟨⟨m1, m5⟩, fun ts hts => hN2 _ ?_⟩
    simp_wf
    refine ⟨by omega, rgI m.toNat, rg_ints, by rw [rgI_len]; omega, fun ns pm => ?_⟩
    simp_wf
    refine ⟨take_ok (by decide) (by decide), fun u u0 u1 => ?_⟩
    simp_wf
    exact h m.toNat ts _ _ (by omega) (by omega) hts ⟨ns, rfl, pm⟩ (by omega) (by omega)
abbrev n__law_odd : List Str := ["_law_deck_here", "_law_some"]
abbrev t__law_odd : DTS := (dSeq (dSet 1 (dRel (dNew [.non, (.bl true), (.bl false), (.int 0), (.int 1), (.int 3), (.int (-1)), (.int (10 ^ 39)), (.int (-(10 ^ 30))), (.str ""), (.str "0"), (.str "task"), (.tup []), (.lst []), (.dct [] []), (.tup [(.int 1)]), (.lst [(.int 0)])])))
  (dSeq (dSet 1 (dRel (dOp oCatS (dVar 1) (dNew [(.tup [(.int 0), (.int 1)]), (.tup [(.int 1), (.int 1)]), (.lst [(.tup [(.int 1), (.int 1)])]), (.tup [(.tup [(.int 1), (.int 1)])]), (.str "(1, 1)"), (.tup [(.int 0)]), (.dct [.inr "low"] [.int 1]), (.tup [(.int 1), (.int 2)]), (.tup [(.int 2), (.int 4)])]))))
  (dRet (dDat (dCallB 0 1 fOne (dCons (dRel (dOp oCatS (dVar 1) (dNew [(.tup [(.tup []), (.tup [(.int 1), (.int 1)]), (.tup [(.int 2), (.int 1)])])]))) dNil))))))
theorem rd__law_odd : ∀ b ds kk xx, ds.length = 0 → fOdd ds kk xx → t__law_odd (bEnds b kk) (envB b n__law_odd ds) := by
  unfold t__law_odd n__law_odd
  rintro b ds kk xx hl h
  match ds, hl, h with
  | [], _, h =>
    have h : ∀ d, Fit 131 300 6 d → kk d := h
    refine seq_d fun N hN => ?_
    simp_wf
    refine hN _ (seq_d fun N2 hN2 => ?_)
    simp_wf
    refine hN2 _ ?_
    simp_wf
    exact ⟨by decide, ⟨by decide, by decide⟩, fun d hd => h d (fits_of (by decide +kernel) d hd)⟩
def fSpRow : DF := fun ds k _ => match ds with
  | [.tup as, .int n, .int m] => (as.length ≤ 5 ∧ (∀ d ∈ as, Fit 10 250 0 d) ∧ 0 ≤ n ∧ n ≤ 5 ∧ 0 ≤ m ∧ m ≤ 5) ∧ ∀ d, Fit 10 4000 6 d → k d
  | _ => False
abbrev n__law_spoiled_row : List Str := ["_law_deck_here", "_law_ahead", "_law_number", "_law_many", "_law_some"]
abbrev t__law_spoiled_row : DTS := (dSeq (dSet 4 (dRel (dLst (dCons (dRel (dUn oList (dVar 1))) (dCons (dRel (dOp oAdd (dVar 1) (dDat (dTup (dCons (dRel (dVar 2)) dNil))))) (dCons (dRel (dOp oAdd (dVar 1) (dDat (dTup (dCons (dRel (dVar 3)) dNil))))) (dCons (dRel (dOp oAdd (dVar 1) (dVar 1))) (dCons (dRel (dUn oRev (dVar 1))) (dCons (dRel (dOp oAdd (dDat (dC (.tup [(.int (-1))]))) (dVar 1))) dNil)))))))))
  (dSeq (dSet 4 (dRel (dOp oCatS (dVar 4) (dLst (dCons (dRel (dOp oAdd (dVar 1) (dDat (dC (.tup [(.bl true)]))))) (dCons (dC (.tup [.non])) (dCons (dC (.str "0")) (dCons (dC .non) (dCons (dC (.int 0)) (dCons (dC (.tup [(.tup [])])) (dCons (dC (.tup [(.int 0), (.int 1)])) (dCons (dC (.tup [(.int 1), (.int 0)])) (dCons (dC (.dct [.inl 0] [.int 0])) (dCons (dTup dNil) dNil))))))))))))))
  (dRet (dDat (dCallB 0 1 fOne (dCons (dRel (dVar 4)) dNil))))))
theorem rd__law_spoiled_row : ∀ b ds kk xx, ds.length = 3 → fSpRow ds kk xx → t__law_spoiled_row (bEnds b kk) (envB b n__law_spoiled_row ds) := by
  unfold t__law_spoiled_row n__law_spoiled_row
  rintro b ds kk xx hl h
  match ds, hl, h with
  | [.tup as, .int n, .int m], _, ⟨⟨la, fa, n0, n5, m0, m5⟩, h⟩ =>
    refine seq_d fun N hN => ?_
    simp_wf
    refine ⟨by omega, by omega, by omega, by omega, hN _ (seq_d fun N2 hN2 => ?_)⟩
    simp_wf
    refine ⟨by omega, hN2 _ ?_⟩
    simp_wf
    refine ⟨⟨by simp, by simp⟩, fun d hd => h d ?_⟩
    have fi : ∀ x : Int, 0 ≤ x → x ≤ 5 → Fit 10 250 0 (.int x) := fun x h0 h5 => fit_int (by have h2 : (2 : Nat) ^ 10 = 1024 := rfl; omega)
    have one : ∀ x : Int, 0 ≤ x → x ≤ 5 → Fit 10 4000 6 (.tup (as ++ [.int x])) := fun x h0 h5 => (fit_tup (L := 6) (fits_app fa (fits_cons (fi x h0 h5) fits_nil)) (by simp; omega)).up
    refine fits_app (fits_cons (fit_lst fa la).up (fits_cons (one n n0 n5) (fits_cons (one m m0 m5) (fits_cons (fit_tup (L := 10) (fits_app fa fa) (by simp; omega)).up (fits_cons (fit_tup (fits_rev fa) (by simpa using la)).up (fits_cons (fit_tup (L := 6) (fits_app (fits_cons (fit_of (by decide +kernel)) fits_nil) fa) (by simp; omega)).up fits_nil)))))) (fits_cons (fit_tup (L := 6) (fits_app fa (fits_cons fit_bl.up fits_nil)) (by simp; omega)).up (fits_of (by decide +kernel))) d hd
/-- what is asked of two bounds that are spoiled: fractions of b bits -/
def fSpBd : DF := fun ds k _ => match ds with
  | [.tup [.int a, .int b], .tup [.int c, .int d]] => ∃ n, n ≤ 180 ∧ (b ≠ 0 ∧ d ≠ 0 ∧ 130 ≤ n ∧ a.natAbs < 2 ^ n ∧ b.natAbs < 2 ^ n ∧ c.natAbs < 2 ^ n ∧ d.natAbs < 2 ^ n) ∧ ∀ e, Fit (n + 4) 1000 3 e → k e
  | _ => False
abbrev n__law_spoiled_bound : List Str := ["_law_deck_here", "_law_low", "_law_high", "_law_some"]
abbrev t__law_spoiled_bound : DTS := (dSeq (dSet 3 (dRel (dNew [(.tup [(.int 0), (.int 1)]), (.tup [(.int (-1)), (.int 2)]), (.tup [(.int 2), (.int 4)]), (.tup [(.int 1), (.int 0)]), (.lst [(.int 1), (.int 1)]), (.tup [(.int 1), (.int 1), (.int 1)]), (.int 1), .non, (.bl true), (.tup [(.bl true), (.int 1)]), (.tup [(.int 1), (.bl true)]), (.str "1")])))
  (dSeq (dSet 3 (dRel (dOp oCatS (dVar 3) (dLst (dCons (dRel (dVar 1)) (dCons (dRel (dVar 2)) (dCons (dCall 2 fFrac (fun _ => False) (dCons (dRel (dOp oIx (dVar 1) (dDat (dC (.int 0))))) (dCons (dRel (dOp oMul (dDat (dC (.int 2))) (dOp oIx (dVar 1) (dDat (dC (.int 1)))))) dNil))) (dCons (dCall 2 fPlus (fun _ => False) (dCons (dRel (dVar 2)) (dCons (dC (.tup [(.int 1), (.int 3)])) dNil))) (dCons (dC (.tup [(.int 1), (.int (-2))])) (dCons (dRel (dUn oList (dVar 2))) dNil))))))))))
  (dSeq (dSet 3 (dRel (dOp oCatS (dVar 3) (dLst (dCons (dC (.tup [(.int (10 ^ 39)), (.int 1)])) (dCons (dC (.tup [(.int 1), (.int (10 ^ 39))])) (dCons (dTup (dCons (dRel (dOp oIx (dVar 1) (dDat (dC (.int 0))))) (dCons (dC (.bl false)) dNil))) (dCons (dTup (dCons (dRel (dOp oMul (dDat (dC (.int 3))) (dOp oIx (dVar 1) (dDat (dC (.int 0)))))) (dCons (dRel (dOp oMul (dDat (dC (.int 3))) (dOp oIx (dVar 1) (dDat (dC (.int 1)))))) dNil))) dNil))))))))
  (dRet (dDat (dCallB 0 1 fOne (dCons (dRel (dOp oCatS (dVar 3) (dNew [(.tup [.non, (.int 1)]), (.tup [(.str "1"), (.int 1)])]))) dNil)))))))
theorem rd__law_spoiled_bound : ∀ b ds kk xx, ds.length = 2 → fSpBd ds kk xx → t__law_spoiled_bound (bEnds b kk) (envB b n__law_spoiled_bound ds) := by
  unfold t__law_spoiled_bound n__law_spoiled_bound
  rintro b ds kk xx hl h
  match ds, hl, h with
  | [.tup [.int a, .int b], .tup [.int c, .int d]], _, ⟨n, hn, ⟨b0, d0, n1, ha, hb, hc, hd⟩, h⟩ =>
    have bd : ∀ {x : Int} {i : Nat}, x.natAbs < 2 ^ i → i ≤ 200 → Bd x := fun hx hi => up_lt hx hi
    have l2 : (2 * b).natAbs < 2 ^ (n + 2) := mul_lt (i := 2) (by decide) hb (by omega)
    have l3a : (3 * a).natAbs < 2 ^ (n + 2) := mul_lt (i := 2) (by decide) ha (by omega)
    have l3b : (3 * b).natAbs < 2 ^ (n + 2) := mul_lt (i := 2) (by decide) hb (by omega)
    refine seq_d fun N hN => ?_
    simp_wf
    refine hN _ (seq_d fun N2 hN2 => ?_)
    simp_wf
    refine ⟨bd_mul (by show (2 : Int).natAbs < 2 ^ 200; decide) (bd hb (by omega)), ⟨by omega, bd ha (by omega), bd l2 (by omega)⟩, ?_⟩
    simp_wf
    refine ⟨plus_ok (i := n) (j := 2) d0 (by decide) hc hd (by decide) (by decide) (by omega), ?_⟩
    simp_wf
    refine hN2 _ (seq_d fun N3 hN3 => ?_)
    simp_wf
    refine ⟨bd_mul (by show (3 : Int).natAbs < 2 ^ 200; decide) (bd ha (by omega)), bd_mul (by show (3 : Int).natAbs < 2 ^ 200; decide) (bd hb (by omega)), by simp, hN3 _ ?_⟩
    simp_wf
    refine ⟨by simp, ⟨by simp, by simp⟩, fun e he => h e ?_⟩
    have fi : ∀ {x : Int} {i : Nat}, x.natAbs < 2 ^ i → i ≤ n + 4 → Fit (n + 4) 250 0 (.int x) := fun hx hi => (fit_int (up_lt hx hi) (by omega))
    have pr : ∀ {x y : Int} {i : Nat}, x.natAbs < 2 ^ i → y.natAbs < 2 ^ i → i ≤ n + 4 → Fit (n + 4) 1000 3 (.tup [.int x, .int y]) := fun hx hy hi => (fit_tup (L := 2) (fits_cons (fi hx hi) (fits_cons (fi hy hi) fits_nil)) (by simp)).up (Nat.le_refl _)
    have cs : ∀ {ds : List D}, ds.all (fitB 130 1000 3) = true → ∀ d ∈ ds, Fit (n + 4) 1000 3 d := fun hd d m => (fits_of hd d m).up (by omega)
    have lo1 := lo_abs (a := a) (b := 2 * b) (by omega)
    have lo2 := lo_abs (a := c * 3 + 1 * d) (b := d * 3) (by omega)
    have m1 : (c * 3).natAbs < 2 ^ (n + 2) := mul_lt (j := 2) hc (by decide) (by omega)
    have m2 : (d * 3).natAbs < 2 ^ (n + 2) := mul_lt (j := 2) hd (by decide) (by omega)
    have m3 : (c * 3 + 1 * d).natAbs < 2 ^ (n + 3) := by
      have e1 : (2 : Nat) ^ (n + 3) = 2 ^ (n + 2) + 2 ^ (n + 2) := by rw [Nat.pow_succ]; omega
      have e2 : d.natAbs < 2 ^ (n + 2) := up_lt hd (by omega)
      omega
    refine fits_app (fits_app (fits_app (cs (by decide +kernel)) (fits_cons (pr ha hb (by omega)) (fits_cons (pr hc hd (by omega)) (fits_cons (pr (i := n + 2) ?_ ?_ (by omega)) (fits_cons (pr (i := n + 3) ?_ ?_ (by omega)) (fits_cons (cs (ds := [_]) (by decide +kernel) _ List.mem_cons_self) (fits_cons (fit_lst (L := 2) (fits_cons (fi hc (by omega)) (fits_cons (fi hd (by omega)) fits_nil)) (by simp)).up fits_nil))))))) (fits_cons (cs (ds := [_]) (by decide +kernel) _ List.mem_cons_self) (fits_cons (cs (ds := [_]) (by decide +kernel) _ List.mem_cons_self) (fits_cons (fit_tup (L := 2) (fits_cons (fi ha (by omega)) (fits_cons (fit_bl.up (by omega)) fits_nil)) (by simp)).up (fits_cons (pr l3a l3b (by omega)) fits_nil))))) (cs (by decide +kernel)) e he
    · exact Nat.lt_of_le_of_lt lo1.1 (up_lt ha (by omega))
    · exact Nat.lt_of_le_of_lt lo1.2 l2
    · exact Nat.lt_of_le_of_lt lo2.1 m3
    · exact Nat.lt_of_le_of_lt lo2.2 (up_lt m2 (by omega))
/-- a right task of b bits -/
structure RightT (b : Nat) (m i : Nat) (d : D) : Prop where
  ex : ∃ (ns : List Int) (p q : Int × Int), d = .tup [.tup (ns.map D.int), frD p, frD q] ∧ ns.length ≤ 5 ∧ (∀ x ∈ ns, 0 ≤ x ∧ x < m) ∧ (p.2 ≠ 0 ∧ q.2 ≠ 0) ∧ p.1.natAbs < 2 ^ b ∧ p.2.natAbs < 2 ^ b ∧ q.1.natAbs < 2 ^ b ∧ q.2.natAbs < 2 ^ b
def fSpTask : DF := fun ds k _ => match ds with
  | [d, .int i, .int m] => (∃ n, (130 ≤ n ∧ n ≤ 180) ∧ (0 ≤ i ∧ i < m ∧ m ≤ 5) ∧ RightT n m.toNat i.toNat d ∧ ∀ e, Fit (n + 4) 13000 8 e → k e)
  | _ => False
abbrev n__law_spoiled_task : List Str := ["_law_deck_here", "_law_task", "_law_number", "_law_many", "_law_way", "_law_ahead", "_law_low", "_law_high"]
abbrev t__law_spoiled_task : DTS := (dSeq (dSet 4 (dCallB 0 1 fTake (dCons (dC (.int 8)) dNil)))
  (dSeq (dAsg (dRel (dVar 1)) (dgTup 3 (dgCons (dName 5) (dgCons (dName 6) (dgCons (dName 7) dgNil)))))
  (dSeq (dIf (dTst (dOp oEq (dVar 4) (dDat (dC (.int 0))))) (dRet (dDat (dCallB 0 0 fOdd dNil))) dNext)
  (dSeq (dIf (dTst (dOp oEq (dVar 4) (dDat (dC (.int 1))))) (dRet (dDat (dCallB 0 1 fOne (dCons (dRel (dLst (dCons (dRel (dUn oList (dVar 1))) (dCons (dRel (dSl (dVar 1) doNone (doSome (dC (.int 2))))) (dCons (dRel (dOp oAdd (dVar 1) (dDat (dC (.tup [(.int 1)]))))) (dCons (dRel (dUn oRev (dVar 1))) (dCons (dTup (dCons (dRel (dVar 1)) dNil)) (dCons (dTup (dCons (dRel (dVar 6)) (dCons (dRel (dVar 7)) dNil))) dNil)))))))) dNil)))) dNext)
  (dSeq (dIf (dTst (dOp oLt (dVar 4) (dDat (dC (.int 4))))) (dRet (dDat (dTup (dCons (dCallB 0 3 fSpRow (dCons (dRel (dVar 5)) (dCons (dRel (dVar 2)) (dCons (dRel (dVar 3)) dNil)))) (dCons (dRel (dVar 6)) (dCons (dRel (dVar 7)) dNil)))))) dNext)
  (dSeq (dIf (dTst (dOp oLt (dVar 4) (dDat (dC (.int 6))))) (dRet (dDat (dTup (dCons (dRel (dVar 5)) (dCons (dCallB 0 2 fSpBd (dCons (dRel (dVar 6)) (dCons (dRel (dVar 7)) dNil))) (dCons (dRel (dVar 7)) dNil)))))) dNext)
  (dRet (dDat (dTup (dCons (dRel (dVar 5)) (dCons (dRel (dVar 6)) (dCons (dCallB 0 2 fSpBd (dCons (dRel (dVar 6)) (dCons (dRel (dVar 7)) dNil))) dNil))))))))))))
theorem rd__law_spoiled_task : ∀ b ds kk xx, ds.length = 3 → fSpTask ds kk xx → t__law_spoiled_task (bEnds b kk) (envB b n__law_spoiled_task ds) := by
  unfold t__law_spoiled_task n__law_spoiled_task
  rintro b ds kk xx hl h
  match ds, hl, h with
  | [d, .int i, .int m], _, ⟨n, ⟨n1, n2⟩, ⟨i0, i1, m5⟩, ⟨ns, p, q, ed, l5, hv, ⟨p0, q0⟩, b1, b2, b3, b4⟩, h⟩ =>
    subst ed
    have k10 : (2 : Nat) ^ 10 = 1024 := rfl
    have fi : ∀ {x : Int}, x.natAbs < 2 ^ n → Fit (n + 4) 250 0 (.int x) := fun hx => (fit_int (up_lt hx (by omega)) (by omega))
    have fns : ∀ d ∈ ns.map D.int, Fit 10 250 0 d := fun d hd => by
      obtain ⟨x, hx, rfl⟩ := List.mem_map.mp hd
      have := hv x hx
      exact fit_int (by omega)
    have fA : Fit 10 1500 2 (.tup (ns.map D.int)) := (fit_tup (L := 5) fns (by simpa using l5)).up
    have fP : Fit (n + 4) 600 1 (frD p) := (fit_tup (L := 2) (fits_cons (fi b1) (fits_cons (fi b2) fits_nil)) (by simp)).up
    have fQ : Fit (n + 4) 600 1 (frD q) := (fit_tup (L := 2) (fits_cons (fi b3) (fits_cons (fi b4) fits_nil)) (by simp)).up
    have f3 : ∀ {x y z : D}, Fit (n + 4) 4000 6 x → Fit (n + 4) 4000 6 y → Fit (n + 4) 4000 6 z → Fit (n + 4) 13000 8 (.tup [x, y, z]) := fun hx hy hz => (fit_tup (L := 3) (fits_cons hx (fits_cons hy (fits_cons hz fits_nil))) (by simp)).up
    have fT : ∀ d ∈ [D.tup (ns.map D.int), frD p, frD q], Fit (n + 4) 1600 2 d := fits_cons fA.up (fits_cons fP.up (fits_cons fQ.up fits_nil))
    refine seq_d fun N hN => ?_
    simp_wf
    refine ⟨take_ok (by decide) (by decide), fun u u0 u1 => hN _ (seq_d fun N2 hN2 => ?_)⟩
    simp_wf
    refine hN2 _ (seq_d fun N3 hN3 => if_d fun T U hT hU => ?_)
    simp_wf
    by_cases c0 : u = 0
    · rw [if_pos c0]
      refine hT _ ?_
      simp_wf
      intro e he
      exact h e he.up
    · rw [if_neg c0]
      refine hU _ (hN3 _ (seq_d fun N4 hN4 => if_d fun T4 U4 hT4 hU4 => ?_))
      simp_wf
      by_cases c1 : u = 1
      · rw [if_pos c1]
        refine hT4 _ ?_
        simp_wf
        refine ⟨⟨by simp, by simp⟩, fun e he => h e ?_⟩
        rw [cut_to (by decide)] at he
        refine fits_cons (fit_lst (L := 3) fT (by simp)).up (fits_cons (fit_tup (b := n + 4) (n := 1600) (m := 2) (L := 2) (fits_cons fA.up (fits_cons fP.up fits_nil)) (by simp)).up (fits_cons (fit_tup (L := 4) (fits_app fT (fits_cons (fi (x := 1) (Nat.lt_of_lt_of_le (by decide : (1 : Int).natAbs < 2 ^ 1) (Nat.pow_le_pow_right (by decide) (by omega)))).up fits_nil)) (by simp)).up (fits_cons (fit_tup (L := 3) (fits_rev fT) (by simp)).up (fits_cons (fit_tup (L := 1) (fits_cons (fit_tup (L := 3) fT (by simp)) fits_nil) (by simp)).up (fits_cons (fit_tup (L := 2) (fits_cons fP (fits_cons fQ fits_nil)) (by simp)).up fits_nil))))) e he
      · rw [if_neg c1]
        refine hU4 _ (hN4 _ (seq_d fun N5 hN5 => if_d fun T5 U5 hT5 hU5 => ?_))
        simp_wf
        by_cases c2 : u < 4
        · rw [if_pos c2]
          refine hT5 _ ?_
          simp_wf
          exact ⟨⟨by simpa using l5, fns, i0, by omega, by omega, m5⟩, fun e he => h _ (f3 he.up fP.up fQ.up)⟩
        · rw [if_neg c2]
          refine hU5 _ (hN5 _ (seq_d fun N6 hN6 => if_d fun T6 U6 hT6 hU6 => ?_))
          simp_wf
          by_cases c3 : u < 6
          · rw [if_pos c3]
            refine hT6 _ ?_
            simp_wf
            exact ⟨n, n2, ⟨p0, q0, n1, b1, b2, b3, b4⟩, fun e he => h _ (f3 fA.up he.up fQ.up)⟩
          · rw [if_neg c3]
            refine hU6 _ (hN6 _ ?_)
            simp_wf
            exact ⟨n, n2, ⟨p0, q0, n1, b1, b2, b3, b4⟩, fun e he => h _ (f3 fA.up fP.up he.up)⟩
end KK
namespace KK
open PySem PySem.Spec PyProof.Rows L2 LL DL K01
noncomputable def planE (t o w : D) : Option (D × Str) := match tasksE t with
  | some e => some e
  | none => match t with
    | .tup ts => if okOrd ts.length o = true then (if okWk w = true then none else some (D.non, ("workers" : Str))) else some (D.non, ("order" : Str))
    | _ => none
theorem planE_t {t o w : D} {e : D × Str} (h : tasksE t = some e) : planE t o w = some e := by
  unfold planE
  rw [h]
theorem tasksE_tup {t : D} (h : tasksE t = none) : ∃ ts, t = .tup ts ∧ ts.length ≤ 5 := by
  cases t with
  | tup ts =>
    by_cases c : 1 ≤ ts.length ∧ ts.length ≤ 5
    · exact ⟨ts, rfl, c.2⟩
    · rw [tasksE_b c] at h; cases h
  | _ => cases h
theorem planE_o {ts : List D} {o w : D} (h : tasksE (.tup ts) = none) (ho : okOrd ts.length o = false) : planE (.tup ts) o w = some (D.non, ("order" : Str)) := by
  unfold planE
  rw [h]
  dsimp only
  rw [ho, if_neg Bool.false_ne_true]
theorem planE_w {ts : List D} {o w : D} (h : tasksE (.tup ts) = none) (ho : okOrd ts.length o = true) (hw : okWk w = false) : planE (.tup ts) o w = some (D.non, ("workers" : Str)) := by
  unfold planE
  rw [h]
  dsimp only
  rw [ho, hw, if_pos rfl, if_neg Bool.false_ne_true]
theorem planE_n {ts : List D} {o w : D} (h : tasksE (.tup ts) = none) (ho : okOrd ts.length o = true) (hw : okWk w = true) : planE (.tup ts) o w = none := by
  unfold planE
  rw [h]
  dsimp only
  rw [ho, hw, if_pos rfl, if_pos rfl]
theorem word_some {n m : Int} {d : D} {y : Str} (h : wordD n m d = some y) : y = "task" ∨ y = "forerunners" ∨ y = "low" ∨ y = "high" := by
  unfold wordD at h
  split at h
  · split at h
    · split at h
      · split at h
        · cases h
        · cases h; exact .inr (.inr (.inr rfl))
      · cases h; exact .inr (.inr (.inl rfl))
    · cases h; exact .inr (.inl rfl)
  · cases h; exact .inl rfl
theorem word_ok {n m : Int} {d : D} {y : Str} (h : wordD n m d = some y) : PyData.strOk y = true ∧ y ≠ "" := by
  rcases word_some h with rfl | rfl | rfl | rfl
  all_goals exact ⟨by decide +kernel, by decide +kernel⟩
def errD : Option (D × Str) → D
  | none => .non
  | some (n, x) => .tup [n, .str x]
noncomputable def fPlanE : DF := fun ds k _ => match ds with
  | [t, o, w] => (t.small = true ∧ o.small = true ∧ w.small = true) ∧ k (errD (planE t o w))
  | _ => False
abbrev n__law_plan_error : List Str := ["_law_tasks_here", "_law_order", "_law_workers", "_law_number", "_law_word"]
abbrev t__law_plan_error : DTS := (dSeq (dIf (dOr (dNot (dTst (dUn (oIsi "tuple") (dVar 0)))) (dNot (dTst (dChain oLe oLe (dDat (dC (.int 1))) (dUn oLen (dVar 0)) (dDat (dC (.int 5))))))) (dRet (dDat (dC (.tup [.non, (.str "tasks")])))) dNext)
  (dSeq (dFor (diRg1 (dCons (dRel (dUn oLen (dVar 0))) dNil)) (dName 3) (dSeq (dSet 4 (dCall 3 fWordL (fun _ => False) (dCons (dRel (dOp oIx (dVar 0) (dVar 3))) (dCons (dRel (dVar 3)) (dCons (dRel (dUn oLen (dVar 0))) dNil)))))
  (dIf (dTst (dOp oNe (dVar 4) (dDat (dC (.str ""))))) (dRet (dDat (dTup (dCons (dRel (dVar 3)) (dCons (dRel (dVar 4)) dNil))))) dNext)))
  (dSeq (dIf (dTst (dDat (dCall 1 fRing (fun _ => False) (dCons (dRel (dVar 0)) dNil)))) (dRet (dDat (dC (.tup [.non, (.str "ring")])))) dNext)
  (dSeq (dIf (dNot (dTst (dDat (dCall 2 fOrdL (fun _ => False) (dCons (dRel (dVar 1)) (dCons (dRel (dUn oLen (dVar 0))) dNil)))))) (dRet (dDat (dC (.tup [.non, (.str "order")])))) dNext)
  (dRet (dIfE (dAnd (dTst (dDat (dCall 1 fWhole (fun _ => False) (dCons (dRel (dVar 2)) dNil)))) (dTst (dChain oLe oLe (dDat (dC (.int 1))) (dVar 2) (dDat (dC (.int 3)))))) (dDat (dC .non)) (dDat (dC (.tup [.non, (.str "workers")])))))))))
theorem rd__law_plan_error : ∀ ds kk xx, ds.length = 3 → fPlanE ds kk xx → t__law_plan_error (dEnds kk) (env0 n__law_plan_error ds) := by
  unfold t__law_plan_error n__law_plan_error
  rintro ds kk xx hl h
  match ds, hl, h with
  | [t, o, w], _, ⟨⟨st, so, sw⟩, h⟩ =>
    refine seq_d fun N hN => if_d fun T U hT hU => ?_
    simp_wf
    refine isi_tuple (small_no st) ?_
    have no : tasksE t = some (D.non, ("tasks" : Str)) → T [Sl.dat t, Sl.dat o, Sl.dat w, Sl.no, Sl.no] := fun z => by
      refine hT _ ?_
      simp_wf
      rw [planE_t z] at h
      exact h
    by_cases c : isTD t = true
    · cases t with
      | tup ts =>
        obtain ⟨ln, sm'⟩ := small_tup st
        simp only [isTD]
        simp_wf
        by_cases c5 : 1 ≤ ts.length ∧ ts.length ≤ 5
        · rw [if_pos (by omega), if_neg (by omega)]
          refine hU _ (hN _ (seq_d fun N2 hN2 => ?_))
          simp only [dFor_eq]
          simp_wf
          refine ⟨by omega, by omega, for_in (fun i e => ∃ a b : Sl, e = [.dat (.tup ts), .dat o, .dat w, a, b] ∧ firstW ts.length 0 ts = firstW ts.length i (ts.drop i)) ⟨_, _, rfl, rfl⟩ ?_ ?_⟩
          · rintro i x e hi ⟨a, b, rfl, ei⟩ N3 hN3
            obtain ⟨li, rfl⟩ := rgD_get hi
            rw [Int.toNat_natCast] at li
            rw [Int.zero_add]
            have ed : ts.drop i = ts[i] :: ts.drop (i + 1) := List.drop_eq_getElem_cons li
            have ea : L2.atI ts ((i : Nat) : Int) = some ts[i] := by
              unfold L2.atI ixN
              rw [if_pos (by omega), if_pos (by omega)]
              exact List.getElem?_eq_getElem li
            simp_wf
            refine seq_d fun N4 hN4 => ?_
            simp_wf
            rw [ea]
            dsimp only
            refine ⟨smalls_mem sm' (List.getElem_mem li), hN4 _ (if_d fun T4 U4 hT4 hU4 => ?_)⟩
            simp_wf
            have ef : firstW ts.length i (ts.drop i) = (match wordD (i : Int) ts.length ts[i] with | some x => some (i, x) | none => firstW ts.length (i + 1) (ts.drop (i + 1))) := by
              rw [ed]
              rfl
            cases ew : wordD (i : Int) ts.length ts[i] with
            | none =>
              rw [ew] at ef
              rw [Option.getD_none]
              refine ⟨eqOk_str (by decide +kernel), eqOk_str (by decide +kernel), ?_⟩
              rw [if_neg (by simp)]
              exact hU4 _ (hN3 _ ⟨_, _, rfl, by rw [ei, ef]⟩)
            | some y =>
              rw [ew] at ef
              rw [Option.getD_some]
              obtain ⟨w1, w2⟩ := word_ok ew
              refine ⟨eqOk_str w1, eqOk_str (by decide +kernel), ?_⟩
              rw [if_pos w2]
              refine hT4 _ ?_
              simp_wf
              rw [planE_t (tasksE_w c5 (by rw [ei, ef]))] at h
              exact h
          · rintro e ⟨a, b, rfl, ei⟩
            unfold rgD at ei
            rw [List.length_map, List.length_range, Int.toNat_natCast, List.drop_length] at ei
            have fw : firstW ts.length 0 ts = none := ei
            obtain ⟨fs, g⟩ := gr_of c5.2 fw
            refine hN2 _ (seq_d fun N5 hN5 => if_d fun T5 U5 hT5 hU5 => ?_)
            simp_wf
            refine ⟨⟨fs, g⟩, ?_⟩
            by_cases r : Ring ts
            · rw [@decide_eq_true _ (Classical.propDecidable _) r]
              simp_wf
              refine hT5 _ ?_
              simp_wf
              rw [planE_t (tasksE_r c5 fw r)] at h
              exact h
            · rw [@decide_eq_false _ (Classical.propDecidable _) r]
              simp_wf
              have te := tasksE_n c5 fw r
              refine hU5 _ (hN5 _ (seq_d fun N6 hN6 => if_d fun T6 U6 hT6 hU6 => ?_))
              simp_wf
              refine ⟨⟨so, by omega, by omega⟩, ?_⟩
              rw [Int.toNat_natCast, ord_same]
              by_cases co : okOrd ts.length o = true
              · rw [co]
                simp_wf
                refine hU6 _ (hN6 _ ?_)
                simp_wf
                refine ⟨small_no sw, ?_⟩
                by_cases cw : okWk w = true
                · cases w with
                  | int i =>
                    have z := Bool.and_eq_true_iff.mp (show (decide (1 ≤ i) && decide (i ≤ 3)) = true from cw)
                    simp only [isID]
                    simp_wf
                    rw [if_pos (of_decide_eq_true z.1), if_pos (of_decide_eq_true z.2)]
                    rw [planE_n te co cw] at h
                    exact h
                  | _ => cases cw
                · rw [planE_w te co (eq_false_of_ne_true cw)] at h
                  have h' : kk (.tup [.non, .str "workers"]) := h
                  cases w with
                  | int i =>
                    simp only [isID]
                    simp_wf
                    by_cases c1 : 1 ≤ i
                    · by_cases c2 : i ≤ 3
                      · exact absurd (show (decide (1 ≤ i) && decide (i ≤ 3)) = true by simp [c1, c2]) cw
                      · rw [if_pos c1, if_neg c2]; exact h'
                    · rw [if_neg c1]; exact h'
                  | _ => simp only [isID]; simp_wf; exact h'
              · rw [eq_false_of_ne_true co]
                simp_wf
                refine hT6 _ ?_
                simp_wf
                rw [planE_o te (eq_false_of_ne_true co)] at h
                exact h
        · have z := no (tasksE_b c5)
          by_cases c6 : (1 : Int) ≤ ((ts.length : Nat) : Int)
          · rw [if_pos c6, if_pos (by omega)]
            exact z
          · rw [if_neg c6]
            exact z
      | _ => cases c
    · rw [eq_false_of_ne_true c]
      simp_wf
      exact no (by cases t <;> first | rfl | exact absurd rfl c)
/-- what Plan must come to -/
def dueP (t o w : D) : Option (D × Str) → D
  | none => .lst [t, o, w]
  | some (n, x) => dueE n (.str x)
noncomputable def fDue : DF := fun ds k _ => match ds with
  | [t, o, w] => (t.small = true ∧ o.small = true ∧ w.small = true) ∧ k (dueP t o w (planE t o w))
  | _ => False
abbrev n__law_due : List Str := ["_law_tasks_here", "_law_order", "_law_workers", "_law_wrong"]
abbrev t__law_due : DTS := (dSeq (dSet 3 (dCall 3 fPlanE (fun _ => False) (dCons (dRel (dVar 0)) (dCons (dRel (dVar 1)) (dCons (dRel (dVar 2)) dNil)))))
  (dRet (dIfE (dTst (dOp (oIsN false) (dVar 3) (dDat (dC .non)))) (dLst (dCons (dRel (dVar 0)) (dCons (dRel (dVar 1)) (dCons (dRel (dVar 2)) dNil)))) (dDat (dCall 1 fDueE (fun _ => False) (dCons (dRel (dVar 3)) dNil))))))
theorem rd__law_due : ∀ ds kk xx, ds.length = 3 → fDue ds kk xx → t__law_due (dEnds kk) (env0 n__law_due ds) := by
  unfold t__law_due n__law_due
  rintro ds kk xx hl h
  match ds, hl, h with
  | [t, o, w], _, ⟨⟨st, so, sw⟩, h⟩ =>
    refine seq_d fun N hN => ?_
    simp_wf
    refine ⟨⟨st, so, sw⟩, hN _ ?_⟩
    simp_wf
    cases e : planE t o w with
    | none =>
      rw [e] at h
      simp only [errD, DL.isNon]
      simp_wf
      exact h
    | some p =>
      obtain ⟨n, x⟩ := p
      rw [e] at h
      simp only [errD, DL.isNon]
      simp_wf
      exact h
end KK
namespace KK
open PySem PySem.Spec PyProof.Rows L2 LL DL K01
abbrev pNs : List Str := ["held_tasks", "held_order", "held_workers"]
/-- Plan.__init__ -/
def spIni (K : PySem.W.Frag) (C CB : Addr) : Sp := fun vs H Q E => ∃ (x dx : Addr) (vt vo vw : V) (t o w : D) (fr : List Addr), vs = [.ref x, vt, vo, vw] ∧ H x = some (.ins C dx []) ∧ (∀ a ∈ fr, H a ≠ none) ∧ x ∈ fr ∧
  DrA K (hid fr H) [vt, vo, vw] [t, o, w] ∧ (t.small = true ∧ o.small = true ∧ w.small = true) ∧
  (planE t o w = none → ∀ H', (∀ c u, c ≠ x → H c = some u → H' c = some u) → H' x = some (.ins C dx [("held_tasks", vt), ("held_order", vo), ("held_workers", vw)]) → Q .non H') ∧
  ∀ n y, planE t o w = some (n, y) → ErR K fr [] H E (bad CB n y)
section
variable {P : Program} {w : World} {K : PySem.W.Frag} {mg : Str → Option Value} {base : Heap}
theorem ErR.up {fr : List Addr} {H H' : Hp} {E : XK} {e : Er} (h : ErR K fr [] H E e) (s : Same H H') : ErR K fr [] H' E e := fun dd H2 vs k b hd hl dr => h dd H2 vs (fun c o n z => k c o n (s _ _ z)) b hd hl dr
end
/-- Plan(tasks, order, workers) -/
def fPlan (C CB : Addr) : DF := fun ds k x => match ds with
  | [t, o, w] => (t.small = true ∧ o.small = true ∧ w.small = true) ∧ (planE t o w = none → k (.obj C pNs [t, o, w])) ∧ ∀ n y, planE t o w = some (n, y) → x (bad CB n y)
  | _ => False
/-- a class Plan that can be made -/
structure PlanT (P : Program) (w : World) (K : PySem.W.Frag) (mg : Str → Option Value) (base : Heap) (k : Nat) (C CB : Addr) : Prop where
  ex : ∃ fi fdi, Mk K C fi ∧ FnOk P w K mg base (L2N.CX P w) k fi fdi ["self", "tasks", "order", "workers"] (spIni K C CB) ∧ mg "Plan" = some (.ref C) ∧ Binds K fdi ["self", "tasks", "order", "workers"] []
section
variable {X : Cx} {F : Fm} {e : Expr} {es : List Expr} {p pos : Pos} {C CB : Addr} {t : DTA} {j k : Nat}
theorem mk_run {K : PySem.W.Frag} {σ : L2.St} {env e1 : Ev} {os os1 : List Addr} {H H1 : Hp} {E : XK} {Q : VK} {Q' : D → Ev → Prop} {ds : List D} {vs : List V} {x : Er → Prop} (r0 : R K F os H σ env) (g1 : Go K F σ os H env os1 H1 e1) (h1 : DrA K (hid os1 H1) vs ds) (q : ds.length = 3 ∧ fPlan C CB ds (fun d => Q' d e1) x)
    (fin : ∀ d env', Q' d env' → ∀ v os' H', Go K F σ os H env os' H' env' → Dr K (hid os' H') v d → Q v H') (hE : ∀ er, x er → ErR K os1 [] H1 E er) : ∀ a dx, H1 a = none → H1 dx = none → dx ≠ a → spIni K C CB (.ref a :: vs) (upd (upd H1 dx (.own a)) a (.ins C dx [])) (fun v H2 => v = .non ∧ Q (.ref a) H2) E := fun a dx na ndx ne => by
  match ds, q, vs, h1 with
  | [dt, dO, dw], ⟨_, sm, qn, qe⟩, [vt, vo, vw], h1 =>
    have s1 : Same H1 (upd H1 dx (.own a)) := same_new ndx
    have na1 : (upd H1 dx (.own a)) a = none := by rw [upd_ne (Ne.symm ne)]; exact na
    have s2 : Same (upd H1 dx (.own a)) (upd (upd H1 dx (.own a)) a (.ins C dx [])) := same_new na1
    have s12 := s1.trans s2
    have oa : a ∉ os1 := g1.r.off na
    have hs : Same (hid os1 H1) (hid (a :: os1) (upd (upd H1 dx (.own a)) a (.ins C dx []))) := fun c u q => by
      obtain ⟨q1, q2⟩ := hid_of q
      refine hid_at (s12 _ _ q1) fun m => ?_
      rcases List.mem_cons.mp m with m | m
      · rw [m, na] at q1; cases q1
      · exact q2 m
    refine ⟨a, dx, vt, vo, vw, dt, dO, dw, a :: os1, rfl, upd_same, fun c hc => ?_, List.mem_cons_self, h1.up hs, sm, fun z H' k hH => ?_, fun n y z => ?_⟩
    · rcases List.mem_cons.mp hc with m | m
      · rw [m, upd_same]; simp
      · exact fun z => g1.r.here c m (s12.free z)
    · have s13 : Same H1 H' := fun c u q => k c u (fun m => by rw [m, na] at q; cases q) (s12 _ _ q)
      refine ⟨rfl, fin _ _ (qn z) _ os1 H' (g1.trans r0 (Go.same g1.r s13)) ?_⟩
      exact .obj (ns := pNs) (vs := [vt, vo, vw]) (hid_at hH oa) rfl (h1.up (hid_up s13))
    · have w := hE _ (qe n y z)
      exact fun dd H2 ws k b hd hl dr => w dd H2 ws (fun c u n q => k c u n (s12 _ _ q)) b (hid_sub (fun c hc => List.mem_cons_of_mem _ hc) _ _ hd) hl (dr.up (hid_sub fun c hc => List.mem_cons_of_mem _ hc))
theorem dmakeN {E : XK} {xr : Er → Prop} (T : PlanT X.prog X.w X.K X.mg X.base k C CB) (hr : Room j X.A) (tk : L2N.Takes X (fun cls d _ H => E cls d H)) (hE : ExR X.K F E xr) (h : DA X F (e :: es) t) (hj : k + 1 ≤ j := by decide) (hg : Gl X "Plan" := by rfl)
    (he : starEach (e :: es) X.env = (false, eval e X.env) :: starEach es X.env := by rfl) (hpl : (backTo pos (starEach es X.env)).any (·.1) = false := by rfl) : DE X F (.Call (.Name "Plan" p) (e :: es) [] pos) (dCall 3 (fPlan C CB) xr t) := by
  obtain ⟨fi, fdi, M, G, hm, hb⟩ := T.ex
  refine imp (pe_make M G (hr.mono hj) hg hm hb .nil (L2N.passes_call tk fun _ _ _ _ h => h) h (by decide) he hpl) fun σ H Q ⟨env, os, r0, Q', z, fin⟩ => ⟨env, os, r0, _, z, fun ds e1 q vs os1 H1 g1 h1 => ?_⟩
  show ∀ x dx, _
  rw [List.append_nil]
  exact mk_run r0 g1 h1 q fin fun er q => hE er q σ e1 os1 H1 g1.r
theorem dmake0 (T : PlanT X.prog X.w X.K X.mg X.base k C CB) (hr : Room j X.A) (h : DA X F (e :: es) t) (hj : k + 1 ≤ j := by decide) (hg : Gl X "Plan" := by rfl)
    (he : starEach (e :: es) X.env = (false, eval e X.env) :: starEach es X.env := by rfl) (hpl : (backTo pos (starEach es X.env)).any (·.1) = false := by rfl) : DE X F (.Call (.Name "Plan" p) (e :: es) [] pos) (dCall 3 (fPlan C CB) (fun _ => False) t) := by
  obtain ⟨fi, fdi, M, G, hm, hb⟩ := T.ex
  have pN : Passes (L2N.CX X.prog X.w) X fun _ _ _ => False := fun _ _ _ _ _ _ _ h => by
    obtain ⟨_, _, _, _, _, _, _, _, _, _, _, _, z⟩ := h
    exact z.elim
  refine imp (pe_make M G (hr.mono hj) hg hm hb .nil pN h (by decide) he hpl) fun σ H Q ⟨env, os, r0, Q', z, fin⟩ => ⟨env, os, r0, _, z, fun ds e1 q vs os1 H1 g1 h1 => ?_⟩
  show ∀ x dx, _
  rw [List.append_nil]
  exact mk_run r0 g1 h1 q fin fun er q => q.elim
theorem dmakeT {W : WX} {xr : Er → Ev → Prop} (T : PlanT X.prog X.w X.K X.mg X.base k C CB) (hr : Room j X.A) (tk : L2N.Takes X W) (hE : ExW X.K F W xr) (h : DA X F (e :: es) t) (hj : k + 1 ≤ j := by decide) (hg : Gl X "Plan" := by rfl)
    (he : starEach (e :: es) X.env = (false, eval e X.env) :: starEach es X.env := by rfl) (hpl : (backTo pos (starEach es X.env)).any (·.1) = false := by rfl) : DE X F (.Call (.Name "Plan" p) (e :: es) [] pos) (dCallT 3 (fPlan C CB) xr t) := by
  obtain ⟨fi, fdi, M, G, hm, hb⟩ := T.ex
  exact imp (pe_mkS M G (hr.mono hj) hg hm hb (fun σ => L2N.passAt tk σ) h (by decide) he hpl) fun σ H Q ⟨env, os, r0, Q', z, fin⟩ => ⟨env, os, r0, _, z, fun ds e1 q vs os1 H1 g1 h1 => mk_run r0 g1 h1 q fin fun er q => hE er e1 q σ os1 H1 g1.r⟩
end
end KK
namespace KK
open PySem PySem.Spec PyProof.Rows L2 LL DL K01
def fGet (C : Addr) (n : Str) : DF := fun ds k _ => match ds with
  | [.obj C' ns es] => C' = C ∧ (match (ns.zip es).lookup n with | some d => k d | none => False)
  | _ => False
def fTold (C : Addr) : DF := fun ds k _ => match ds with
  | [.obj C' ns [t, o, w]] => (C' = C ∧ ns = pNs) ∧ k (.lst [t, o, w])
  | _ => False
def eTold : DFE := fun ns ds k => match ds with
  | [w, n] => ns = (["word", "number"] : List Str) ∧ k (dueE n w)
  | _ => False
noncomputable def fMade : DF := fun ds k _ => match ds with
  | [t, o, w] => (t.small = true ∧ o.small = true ∧ w.small = true) ∧ k (dueP t o w (planE t o w))
  | _ => False
abbrev n_Plan_tasks : List Str := ["self"]
abbrev t_Plan_tasks (C_Plan : Addr) : DTS := (dRet (dDat (dFld C_Plan "held_tasks" (dRel (dVar 0)))))
theorem rd_Plan_tasks {C_Plan : Addr} : ∀ ds kk xx, ds.length = 1 → (fGet C_Plan "held_tasks") ds kk xx → t_Plan_tasks C_Plan (dEnds kk) (env0 n_Plan_tasks ds) := by
  unfold t_Plan_tasks n_Plan_tasks
  rintro ds kk xx hl h
  match ds, hl, h with
  | [.obj C' ns es], _, ⟨e, h1⟩ =>
    subst e
    simp_wf
    exact h1
abbrev n_Plan_order : List Str := ["self"]
abbrev t_Plan_order (C_Plan : Addr) : DTS := (dRet (dDat (dFld C_Plan "held_order" (dRel (dVar 0)))))
theorem rd_Plan_order {C_Plan : Addr} : ∀ ds kk xx, ds.length = 1 → (fGet C_Plan "held_order") ds kk xx → t_Plan_order C_Plan (dEnds kk) (env0 n_Plan_order ds) := by
  unfold t_Plan_order n_Plan_order
  rintro ds kk xx hl h
  match ds, hl, h with
  | [.obj C' ns es], _, ⟨e, h1⟩ =>
    subst e
    simp_wf
    exact h1
abbrev n_Plan_workers : List Str := ["self"]
abbrev t_Plan_workers (C_Plan : Addr) : DTS := (dRet (dDat (dFld C_Plan "held_workers" (dRel (dVar 0)))))
theorem rd_Plan_workers {C_Plan : Addr} : ∀ ds kk xx, ds.length = 1 → (fGet C_Plan "held_workers") ds kk xx → t_Plan_workers C_Plan (dEnds kk) (env0 n_Plan_workers ds) := by
  unfold t_Plan_workers n_Plan_workers
  rintro ds kk xx hl h
  match ds, hl, h with
  | [.obj C' ns es], _, ⟨e, h1⟩ =>
    subst e
    simp_wf
    exact h1
abbrev n__law_told_plan : List Str := ["_law_plan"]
abbrev t__law_told_plan (C_Plan : Addr) : DTS := (dRet (dLst (dCons (dProp C_Plan (fGet C_Plan "held_tasks") (dRel (dVar 0))) (dCons (dProp C_Plan (fGet C_Plan "held_order") (dRel (dVar 0))) (dCons (dProp C_Plan (fGet C_Plan "held_workers") (dRel (dVar 0))) dNil)))))
theorem rd__law_told_plan {C_Plan : Addr} : ∀ ds kk xx, ds.length = 1 → (fTold C_Plan) ds kk xx → t__law_told_plan C_Plan (dEnds kk) (env0 n__law_told_plan ds) := by
  unfold t__law_told_plan n__law_told_plan
  rintro ds kk xx hl h
  match ds, hl, h with
  | [.obj C' ns [t, o, w]], _, ⟨⟨e, en⟩, h1⟩ =>
    subst e en
    simp_wf
    exact ⟨rfl, rfl, rfl, h1⟩
abbrev n__law_told_error : List Str := ["_law_error"]
abbrev t__law_told_error (C_BadPlan : Addr) (C_PlanError : Addr) (a dd : Addr) : DTS := (dRet (dLst (dCons (dC (.str "bad")) (dCons (dXf 0 a dd "number") (dCons (dXf 0 a dd "word") (dCons (dIsX 0 a dd true) (dCons (dIsX 0 a dd false) dNil)))))))
theorem rd__law_told_error {C_BadPlan : Addr} {C_PlanError : Addr} : ∀ a dd ns ds kk, eTold ns ds kk → t__law_told_error C_BadPlan C_PlanError a dd (dEnds kk) (env0E n__law_told_error a dd ns ds) := by
  unfold t__law_told_error n__law_told_error
  rintro a dd ns ds kk h
  match ds, h with
  | [w, n], ⟨e, h1⟩ =>
    subst e
    simp_wf
    exact h1
abbrev n__law_made : List Str := ["_law_tasks_here", "_law_order", "_law_workers", "_law_found", "_law_error"]
abbrev t__law_made (C_Plan : Addr) (C_BadPlan : Addr) : DTS := (dSeq (dSet 3 (dC .non))
  (dSeq (dTry (fun xr => (dSet 3 (dCall 1 (fTold C_Plan) (fun _ => False) (dCons (dCallT 3 (fPlan C_Plan C_BadPlan) xr (dCons (dRel (dVar 0)) (dCons (dRel (dVar 1)) (dCons (dRel (dVar 2)) dNil)))) dNil)))) (⟨[(C_BadPlan, true)], some 4, fun C a dd => (dSet 3 (dCallE 4 a dd eTold))⟩ :: []))
  (dRet (dVar 3))))
theorem rd__law_made {C_Plan : Addr} {C_BadPlan : Addr} : ∀ ds kk xx, ds.length = 3 → fMade ds kk xx → t__law_made C_Plan C_BadPlan (dEnds kk) (env0 n__law_made ds) := by
  unfold t__law_made n__law_made
  rintro ds kk xx hl h
  match ds, hl, h with
  | [t, o, w], _, ⟨⟨st, so, sw⟩, h⟩ =>
    refine seq_d fun N hN => ?_
    simp_wf
    refine hN _ (seq_d fun N2 hN2 => ?_)
    simp_wf
    refine ⟨⟨st, so, sw⟩, fun z => ?_, fun n y z => ⟨true, List.mem_cons_self, fun _ a dd => ?_, fun z => nomatch z⟩⟩
    · rw [z] at h
      refine ⟨⟨rfl, rfl⟩, hN2 _ ?_⟩
      simp_wf
      exact h
    · rw [z] at h
      simp only [Hn.ends, Hn.env, bad]
      simp_wf
      refine ⟨rfl, hN2 _ ?_⟩
      simp_wf
      exact h
theorem frD_fit {b : Nat} {p : Int × Int} (h1 : p.1.natAbs < 2 ^ b) (h2 : p.2.natAbs < 2 ^ b) (hb : b ≤ 200 := by decide) : Fit b 600 1 (frD p) := (fit_tup (L := 2) (fits_cons (fit_int h1 hb) (fits_cons (fit_int h2 hb) fits_nil)) (by simp)).up
/-- a drawn task can be shown -/
theorem TaskD.fit {m i : Nat} {line : List Int} {d : D} (h : TaskD m line i d) (pm : line.Perm (rgI m)) (m5 : m ≤ 5) : Fit 130 13000 8 d := by
  obtain ⟨ns, p, q, rfl, pw, hv, sp⟩ := h.ex
  have hn : ∀ x ∈ ns, 0 ≤ x ∧ x < 5 := fun x hx => by
    have := mem_rgI.mp (pm.subset (hv x hx).1)
    omega
  have nd : ns.Nodup := pw.imp fun h => by omega
  have l5 : ns.length ≤ 5 := nodup_few nd hn
  have k10 : (2 : Nat) ^ 10 = 1024 := rfl
  have fns : ∀ d ∈ ns.map D.int, Fit 10 250 0 d := fun d hd => by
    obtain ⟨x, hx, rfl⟩ := List.mem_map.mp hd
    have := hn x hx
    exact fit_int (by omega)
  have fA : Fit 10 1500 2 (.tup (ns.map D.int)) := (fit_tup (L := 5) fns (by simpa using l5)).up
  exact (fit_tup (L := 3) (fits_cons (fA.up (b' := 130) (n' := 1500) (m' := 2)) (fits_cons (frD_fit (b := 130) (up_lt sp.b1 (by decide)) (up_lt sp.b2 (by decide))).up (fits_cons (frD_fit (b := 130) (up_lt sp.b3 (by decide)) (up_lt sp.b4 (by decide))).up fits_nil))) (by simp)).up
theorem OrdD.fit {m : Nat} {d : D} (h : OrdD m d) (m5 : m ≤ 5) : Fit 130 2000 2 d := by
  obtain ⟨ns, rfl, pm⟩ := h
  have k10 : (2 : Nat) ^ 10 = 1024 := rfl
  have fns : ∀ d ∈ ns.map D.int, Fit 10 250 0 d := fun d hd => by
    obtain ⟨x, hx, rfl⟩ := List.mem_map.mp hd
    have := mem_rgI.mp (pm.subset hx)
    exact fit_int (by omega)
  have l5 : ns.length ≤ 5 := by rw [pm.length_eq, rgI_len]; exact m5
  exact (fit_tup (L := 5) fns (by simpa using l5)).up
/-- a right task of so many bits, by its word -/
theorem right_of {b m i : Nat} {d : D} (h : wordD (i : Nat) (m : Nat) d = none) (f : d.sm b = true) (m5 : m ≤ 5) : RightT b m i d := by
  obtain ⟨ns, l, g, rfl, ha, nd, hl, hg, _⟩ := word_none h
  have hn : ∀ x ∈ ns, 0 ≤ x ∧ x < (m : Nat) := fun x hx => by
    have := List.all_eq_true.mp ha x hx
    simpa using this
  have l5 : ns.length ≤ 5 := by
    have := nodup_few nd hn
    omega
  have hl' : isFD l = true := by
    unfold isLow at hl
    split at hl
    · exact (Bool.and_eq_true_iff.mp hl).1
    · cases hl
  obtain ⟨a, b1, rfl, p1, _⟩ := isFD_ex hl'
  obtain ⟨c, d1, rfl, p2, _⟩ := isFD_ex hg
  have f1 := (Bool.and_eq_true_iff.mp f).2
  have s1 : (D.tup [.int a, .int b1]).sm b = true := sms_mem f1 (by simp)
  have s2 : (D.tup [.int c, .int d1]).sm b = true := sms_mem f1 (by simp)
  have t1 := Bool.and_eq_true_iff.mp s1
  have t2 := Bool.and_eq_true_iff.mp s2
  exact ⟨ns, (a, b1), (c, d1), rfl, l5, hn, ⟨by show b1 ≠ 0; omega, by show d1 ≠ 0; omega⟩, of_decide_eq_true t1.1, of_decide_eq_true (sms_mem (d := .int b1) t1.2 (by simp)), of_decide_eq_true t2.1, of_decide_eq_true (sms_mem (d := .int d1) t2.2 (by simp))⟩
theorem firstW_some {m : Int} : ∀ {i : Nat} {ts : List D} {j : Nat} {y : Str}, firstW m i ts = some (j, y) → j < i + ts.length ∧ ∃ d, wordD (j : Nat) m d = some y
  | i, [], j, y, h => by cases h
  | i, t :: ts, j, y, h => by
    have e : firstW m i (t :: ts) = (match wordD i m t with | some x => some (i, x) | none => firstW m (i + 1) ts) := rfl
    rw [e] at h
    cases q : wordD i m t with
    | some x => rw [q] at h; cases h; exact ⟨by rw [List.length_cons]; omega, t, q⟩
    | none =>
      rw [q] at h
      obtain ⟨h1, h2⟩ := firstW_some h
      exact ⟨by rw [List.length_cons]; omega, h2⟩
theorem planE_fit {t o w n : D} {x : Str} (h : planE t o w = some (n, x)) : Fit 10 250 0 n ∧ Fit 0 20 0 (.str x) := by
  have no : Fit 10 250 0 .non := fit_non.up
  have tk : ∀ {e : D × Str}, tasksE t = some e → Fit 10 250 0 e.1 ∧ Fit 0 20 0 (.str e.2) := fun {e} q => by
    cases t with
    | tup ts =>
      by_cases c : 1 ≤ ts.length ∧ ts.length ≤ 5
      · cases f : firstW ts.length 0 ts with
        | some p =>
          obtain ⟨j, y⟩ := p
          rw [tasksE_w c f] at q
          cases q
          obtain ⟨h1, d, h2⟩ := firstW_some f
          have k10 : (2 : Nat) ^ 10 = 1024 := rfl
          refine ⟨fit_int (by omega), ?_⟩
          show Fit 0 20 0 (.str y)
          rcases word_some h2 with rfl | rfl | rfl | rfl
          all_goals exact fit_of (by decide +kernel)
        | none =>
          by_cases r : Ring ts
          · rw [tasksE_r c f r] at q; cases q; exact ⟨no, fit_of (by decide +kernel)⟩
          · rw [tasksE_n c f r] at q; cases q
      · rw [tasksE_b c] at q; cases q; exact ⟨no, fit_of (by decide +kernel)⟩
    | _ => cases q; exact ⟨no, fit_of (by decide +kernel)⟩
  cases te : tasksE t with
  | some e => rw [planE_t te] at h; cases h; exact tk te
  | none =>
    obtain ⟨ts, rfl, _⟩ := tasksE_tup te
    cases co : okOrd ts.length o with
    | false => rw [planE_o te co] at h; cases h; exact ⟨no, fit_of (by decide +kernel)⟩
    | true =>
      cases cw : okWk w with
      | false => rw [planE_w te co cw] at h; cases h; exact ⟨no, fit_of (by decide +kernel)⟩
      | true => rw [planE_n te co cw] at h; cases h
/-- what Plan must come to can be shown -/
theorem due_fit {t o w : D} {b n m : Nat} (ht : Fit b n m t) (ho : Fit b n m o) (hw : Fit b n m w) (hb : 10 ≤ b) (hn : 250 ≤ n) : Fit b ((n + 2) * 5 + 3) (m + 1) (dueP t o w (planE t o w)) := by
  cases e : planE t o w with
  | none => exact fit_lst (L := 5) (fits_cons ht (fits_cons ho (fits_cons hw fits_nil))) (by simp)
  | some p =>
    obtain ⟨k, x⟩ := p
    obtain ⟨h1, h2⟩ := planE_fit e
    have fb : Fit 0 20 0 (.str "bad") := fit_of (by decide +kernel)
    exact fit_lst (L := 5) (fits_cons (fb.up (by omega) (by omega) (by omega)) (fits_cons (h1.up hb hn (by omega)) (fits_cons (h2.up (by omega) (by omega) (by omega)) (fits_cons (fit_bl.up (by omega) (by omega) (by omega)) (fits_cons (fit_bl.up (by omega) (by omega) (by omega)) fits_nil))))) (by simp)
abbrev n_law_k02 : List Str := ["_law_script", "_law_deck_here", "_law_turn", "_law_tasks_here", "_law_order", "_law_workers", "_law_k", "_law_kept", "_law_due_here", "_law_number", "_law_some", "_law_task"]
abbrev t_law_k02 (C_Plan : Addr) (C_BadPlan : Addr) : DTS := (dSeq (dDeck 1 0)
  (dSeq (dFor (diRg1 (dCons (dC (.int 8)) dNil)) (dName 2) (dSeq (dAsg (dCallB 1 0 fParts dNil) (dgLst 3 (dgCons (dName 3) (dgCons (dName 4) (dgCons (dName 5) dgNil)))))
  (dSeq (dFor (diRg1 (dCons (dCallB 1 1 fOne (dCons (dRel (dNew [(.int 0), (.int 1), (.int 1), (.int 1), (.int 2)])) dNil)) dNil)) (dName 6) (dSeq (dSet 9 (dCallB 1 1 fTake (dCons (dRel (dUn oLen (dVar 3))) dNil)))
  (dIf (dTst (dOp oEq (dDat (dCall 3 fWordL (fun _ => False) (dCons (dRel (dOp oIx (dVar 3) (dVar 9))) (dCons (dRel (dVar 9)) (dCons (dRel (dUn oLen (dVar 3))) dNil))))) (dDat (dC (.str ""))))) (dSeq (dSet 11 (dCallB 1 3 fSpTask (dCons (dRel (dOp oIx (dVar 3) (dVar 9))) (dCons (dRel (dVar 9)) (dCons (dRel (dUn oLen (dVar 3))) dNil)))))
  (dSet 3 (dCall 3 fWith (fun _ => False) (dCons (dRel (dVar 3)) (dCons (dRel (dVar 9)) (dCons (dRel (dVar 11)) dNil)))))) dNext)))
  (dSeq (dIf (dTst (dOp oEq (dDat (dCallB 1 1 fTake (dCons (dC (.int 8)) dNil))) (dDat (dC (.int 0))))) (dSeq (dSet 10 (dRel (dLst (dCons (dRel (dUn oList (dVar 3))) (dCons (dTup dNil) (dCons (dRel (dOp oRepT (dSl (dVar 3) doNone (doSome (dC (.int 1)))) (dDat (dC (.int 6))))) (dCons (dRel (dOp oAdd (dVar 3) (dVar 3))) (dCons (dC .non) (dCons (dRel (dOp oIx (dVar 3) (dDat (dC (.int 0))))) (dCons (dC (.int 0)) (dCons (dC (.dct [] [])) (dCons (dC (.str "tasks")) dNil))))))))))))
  (dSet 3 (dCallB 1 1 fOne (dCons (dRel (dVar 10)) dNil)))) dNext)
  (dSeq (dSet 7 (dRel (dUn oRepr (dLst (dCons (dRel (dVar 3)) (dCons (dRel (dVar 4)) (dCons (dRel (dVar 5)) dNil)))))))
  (dSeq (dSet 8 (dRel (dUn oRepr (dDat (dCall 3 fDue (fun _ => False) (dCons (dRel (dVar 3)) (dCons (dRel (dVar 4)) (dCons (dRel (dVar 5)) dNil))))))))
  (dSeq (dFor (diRg1 (dCons (dC (.int 2)) dNil)) (dName 6) (dIf (dTst (dOp (oStrs true) (dUn oRepr (dDat (dCall 3 fMade (fun _ => False) (dCons (dRel (dVar 3)) (dCons (dRel (dVar 4)) (dCons (dRel (dVar 5)) dNil)))))) (dVar 8))) (dRet (dDat (dC (.bl false)))) dNext))
  (dIf (dTst (dOp (oStrs true) (dUn oRepr (dLst (dCons (dRel (dVar 3)) (dCons (dRel (dVar 4)) (dCons (dRel (dVar 5)) dNil))))) (dVar 7))) (dRet (dDat (dC (.bl false)))) dNext))))))))
  (dRet (dDat (dC (.bl true))))))
theorem rd_law_k02 {C_Plan : Addr} {C_BadPlan : Addr} : ∀ ns : List Int, ns.length ≤ 63 → t_law_k02 C_Plan C_BadPlan lEnds (env0 n_law_k02 [.lst (ns.map D.int)]) := by
  unfold t_law_k02 n_law_k02
  intro ns l63
  refine seq_d fun N hN => ?_
  simp_wf
  refine ⟨⟨ns, rfl, l63⟩, fun b => hN _ (seq_d fun N2 hN2 => ?_)⟩
  simp only [dFor_eq]
  simp_wf
  refine ⟨by decide, by decide, for_in (fun i e => ∃ x2 x3 x4 x5 x6 x7 x8 x9 x10 x11, e = [.dat (.lst (ns.map D.int)), .bag b, x2, x3, x4, x5, x6, x7, x8, x9, x10, x11]) ⟨_, _, _, _, _, _, _, _, _, _, rfl⟩ ?_ ?_⟩
  · rintro i d e hd ⟨x2, x3, x4, x5, x6, x7, x8, x9, x10, x11, rfl⟩ N3 hN3
    simp_wf
    refine seq_d fun N4 hN4 => ?_
    simp_wf
    intro m ts o w m1 m5 hts ho w1 w3
    simp_wf
    refine hN4 _ (seq_d fun N5 hN5 => ?_)
    simp only [dFor_eq]
    simp_wf
    have lt : ts.length = m := hts.1
    obtain ⟨line, pm, hall⟩ := hts.2
    have fts : ∀ d ∈ ts, Fit 130 13000 8 d := fun d hd => by
      obtain ⟨j, hj⟩ := List.getElem?_of_mem hd
      exact (hall j d hj).fit pm m5
    refine ⟨⟨by decide, by decide⟩, fun c hc => ?_⟩
    obtain ⟨c, rfl, c0, c2⟩ : ∃ z : Int, c = .int z ∧ 0 ≤ z ∧ z ≤ 2 := by
      simp only [List.mem_cons, List.not_mem_nil, or_false] at hc
      rcases hc with rfl | rfl | rfl | rfl | rfl
      all_goals exact ⟨_, rfl, by decide, by decide⟩
    refine ⟨by omega, by omega, for_in (fun i e => ∃ us x6 x7 x8 x9 x10 x11, e = [.dat (.lst (ns.map D.int)), .bag b, .dat d, .dat (.tup us), .dat o, .dat (.int w), x6, x7, x8, x9, x10, x11] ∧ us.length = m ∧ ∀ d ∈ us, Fit (130 + 4 * i) 13000 8 d) ⟨ts, _, _, _, _, _, _, rfl, lt, fts⟩ ?_ ?_⟩
    · rintro i d2 e hd2 ⟨us, x6, x7, x8, x9, x10, x11, rfl, lu, fu⟩ N6 hN6
      obtain ⟨i2, rfl⟩ := rgD_get hd2
      simp_wf
      refine seq_d fun N7 hN7 => ?_
      simp_wf
      refine ⟨take_ok (by omega) (by omega), fun u u0 u1 => hN7 _ (if_d fun T U hT hU => ?_)⟩
      have lk : u.toNat < us.length := by omega
      have ea : L2.atI us u = some us[u.toNat] := by
        unfold L2.atI ixN
        rw [if_pos u0, if_pos u1]
        exact List.getElem?_eq_getElem lk
      have fx := fu _ (List.getElem_mem lk)
      simp_wf
      rw [ea]
      dsimp only
      refine ⟨fx.small (by omega), ?_⟩
      have eu : ((u.toNat : Nat) : Int) = u := by omega
      cases ew : wordD u us.length us[u.toNat] with
      | some y =>
        obtain ⟨w1', w2'⟩ := word_ok ew
        refine ⟨eqOk_str w1', eqOk_str (by decide +kernel), ?_⟩
        rw [Option.getD_some, eqv_str, decide_eq_false w2', if_neg (by decide)]
        exact hU _ (hN6 _ ⟨us, _, _, _, _, _, _, rfl, lu, fun d hd => (fu d hd).up (by omega)⟩)
      | none =>
        refine ⟨eqOk_str (by decide +kernel), eqOk_str (by decide +kernel), ?_⟩
        rw [Option.getD_none, eqv_str, decide_eq_true rfl, if_pos rfl]
        refine hT _ (seq_d fun N8 hN8 => ?_)
        have rt := right_of (b := 130 + 4 * i) (m := m) (i := u.toNat) (d := us[u.toNat]) (by rw [eu, ← lu]; exact ew) fx.sm m5
        simp_wf
        rw [ea]
        dsimp only
        refine ⟨130 + 4 * i, ⟨by omega, by omega⟩, ⟨u0, u1, by omega⟩, by rw [lu, Int.toNat_natCast]; exact rt, fun v fv => hN8 _ ?_⟩
        simp_wf
        refine ⟨⟨by omega, u0, u1⟩, hN6 _ ⟨us.set u.toNat v, _, _, _, _, _, _, rfl, by rw [List.length_set]; exact lu, fun d hd => ?_⟩⟩
        rcases List.mem_or_eq_of_mem_set hd with hd | rfl
        · exact (fu d hd).up (by omega)
        · exact fv.up (by omega)
    · rintro e ⟨us, x6, x7, x8, x9, x10, x11, rfl, lu, fu⟩
      have lc : (rgD 0 c.toNat).length ≤ 2 := by unfold rgD; rw [List.length_map, List.length_range]; omega
      have fu : ∀ d ∈ us, Fit 138 13000 8 d := fun d hd => (fu d hd).up (by omega)
      have fo := (ho.fit m5).up (b' := 138) (n' := 131000) (m' := 10)
      have fw : Fit 138 131000 10 (.int w) := (fit_int (b := 10) (by have k10 : (2 : Nat) ^ 10 = 1024 := rfl; omega)).up
      refine hN5 _ (seq_d fun N6 hN6 => ?_)
      have rest : ∀ t x10, Fit 138 131000 10 t → N6 [.dat (.lst (ns.map D.int)), .bag b, .dat d, .dat t, .dat o, .dat (.int w), x6, x7, x8, x9, x10, x11] := fun t x10 ft => by
        have fl : Fit 138 400000 11 (.lst [t, o, .int w]) := (fit_lst (L := 3) (fits_cons ft (fits_cons fo (fits_cons fw fits_nil))) (by simp)).up
        have fd := due_fit ft fo fw (by decide) (by decide)
        refine hN6 _ (seq_d fun N7 hN7 => ?_)
        simp_wf
        refine ⟨fl.r, hN7 _ (seq_d fun N8 hN8 => ?_)⟩
        simp_wf
        refine ⟨⟨ft.small, fo.small, fw.small⟩, fd.r, hN8 _ (seq_d fun N9 hN9 => ?_)⟩
        simp only [dFor_eq]
        simp_wf
        refine ⟨by decide, by decide, for_in (fun i e => ∃ z6, e = [.dat (.lst (ns.map D.int)), .bag b, .dat d, .dat t, .dat o, .dat (.int w), z6, .dat (.str (D.lst [t, o, .int w]).py.shown), .dat (.str (dueP t o (.int w) (planE t o (.int w))).py.shown), x9, x10, x11]) ⟨_, rfl⟩ ?_ ?_⟩
        · rintro j d3 e hd3 ⟨z6, rfl⟩ N10 hN10
          simp_wf
          refine if_d fun T U hT hU => ?_
          simp_wf
          refine ⟨⟨ft.small, fo.small, fw.small⟩, fd.r, ?_⟩
          rw [if_neg (by simp)]
          exact hU _ (hN10 _ ⟨_, rfl⟩)
        · rintro e ⟨z6, rfl⟩
          refine hN9 _ (if_d fun T U hT hU => ?_)
          simp_wf
          refine ⟨fl.r, ?_⟩
          rw [if_neg (by simp)]
          exact hU _ (hN3 _ ⟨_, _, _, _, _, _, _, _, _, _, rfl⟩)
      refine if_d fun T U hT hU => ?_
      simp_wf
      refine ⟨take_ok (by decide) (by decide), fun u u0 u1 => ?_⟩
      simp_wf
      by_cases c0 : u = 0
      · rw [if_pos c0]
        refine hT _ (seq_d fun N7 hN7 => ?_)
        simp_wf
        rw [cut_to (by decide)]
        have l1 : (us.take (1 : Int).toNat).length = 1 := by rw [List.length_take, lu]; have : (1 : Int).toNat = 1 := rfl; omega
        have ea : L2.atI us 0 = some (us[0]'(by omega)) := by
          unfold L2.atI ixN
          rw [if_pos (by decide), if_pos (by omega)]
          exact List.getElem?_eq_getElem (by omega)
        rw [ea]
        have ne : us.take (1 : Int).toNat ≠ [] := fun z => by rw [z] at l1; cases l1
        refine ⟨⟨ne, by decide, by decide, by omega⟩, by omega, hN7 _ ?_⟩
        simp_wf
        refine ⟨⟨by simp, by simp⟩, fun t ht => rest t _ ?_⟩
        have f6 : ∀ d ∈ (List.replicate (6 : Int).toNat (us.take (1 : Int).toNat)).flatten, Fit 138 13000 8 d := fun d hd => by
          obtain ⟨l, hl, hd⟩ := List.mem_flatten.mp hd
          rw [(List.mem_replicate.mp hl).2] at hd
          exact fu d (List.mem_of_mem_take hd)
        have l6 : (List.replicate (6 : Int).toNat (us.take (1 : Int).toNat)).flatten.length ≤ 6 := by
          rw [PyProof.Rows.lm_len_rep_flat, l1]
          decide
        exact fits_cons (fit_lst (L := 5) fu (by omega)).up (fits_cons (fit_of (by decide +kernel)) (fits_cons (fit_tup (L := 6) f6 l6).up (fits_cons (fit_tup (L := 10) (fits_app fu fu) (by rw [List.length_append]; omega)).up (fits_cons (fit_of (by decide +kernel)) (fits_cons (fu _ (List.getElem_mem _)).up (fits_of (by decide +kernel))))))) t ht
      · rw [if_neg c0]
        refine hU _ ?_
        simp_wf
        exact rest _ _ (fit_tup (L := 5) fu (by omega)).up
  · rintro e ⟨x2, x3, x4, x5, x6, x7, x8, x9, x10, x11, rfl⟩
    refine hN2 _ ?_
    simp_wf
end KK
namespace KK
open PySem PySem.Spec PyProof.Rows L2 LL DL K01
theorem log1920 {x : Int} (h : x.natAbs ≤ 1000) : x.natAbs.log2 < 1920 := by
  have : x.natAbs.log2 < 10 := PySem.Flt.log2_lt_of (by decide) (by have k10 : (2 : Nat) ^ 10 = 1024 := rfl; omega)
  omega
theorem digit_fit {x : Int} (h0 : 0 ≤ x) (h5 : x < 5) : Fit 10 250 0 (.str (toString x : String)) := by
  have : x = 0 ∨ x = 1 ∨ x = 2 ∨ x = 3 ∨ x = 4 := by omega
  rcases this with rfl | rfl | rfl | rfl | rfl
  all_goals exact fit_of (by decide +kernel)
def fAnyTs : DF := fun ds k _ => match ds with
  | [.int m] => (1 ≤ m ∧ m ≤ 5) ∧ ∀ ts, ts.length = m.toNat → (∀ d ∈ ts, Fit 130 13000 8 d) → k (.tup ts)
  | _ => False
def fAnyOrd : DF := fun ds k _ => match ds with
  | [.int m] => (1 ≤ m ∧ m ≤ 5) ∧ ∀ d, Fit 140 20000 6 d → k d
  | _ => False
def fAnyWk : DF := fun ds k _ => match ds with
  | [] => ∀ d, Fit 140 300 6 d → k d
  | _ => False
theorem fits_cut {b n m : Nat} {ds : List D} {lo hi : Option Int} (h : ∀ d ∈ ds, Fit b n m d) : ∀ d ∈ DL.cutD ds lo hi, Fit b n m d := fun d hd => h d (List.mem_of_mem_drop (List.mem_of_mem_take hd))
theorem cut_len {ds : List D} {lo hi : Option Int} : (DL.cutD ds lo hi).length ≤ ds.length := by
  unfold DL.cutD
  rw [List.length_take, List.length_drop]
  omega
theorem small_fit {x : Int} (h0 : -10 ≤ x) (h5 : x ≤ 10) : Fit 10 250 0 (.int x) := fit_int (by have k10 : (2 : Nat) ^ 10 = 1024 := rfl; omega)
theorem ints_fit {ns : List Int} (h : ∀ x ∈ ns, -10 ≤ x ∧ x ≤ 10) : ∀ d ∈ ns.map D.int, Fit 10 250 0 d := fun d hd => by
  obtain ⟨x, hx, rfl⟩ := List.mem_map.mp hd
  exact small_fit (h x hx).1 (h x hx).2
theorem span_fit {ns : List Int} {p q : Int × Int} (h : ∀ x ∈ ns, -10 ≤ x ∧ x ≤ 10) (l5 : ns.length ≤ 5) (sp : Span p q) : Fit 130 13000 8 (.tup [.tup (ns.map D.int), frD p, frD q]) := by
  have fA : Fit 10 1500 2 (.tup (ns.map D.int)) := (fit_tup (L := 5) (ints_fit h) (by simpa using l5)).up
  exact (fit_tup (L := 3) (fits_cons (fA.up (b' := 130) (n' := 1500) (m' := 2)) (fits_cons (frD_fit (b := 130) (up_lt sp.b1 (by decide)) (up_lt sp.b2 (by decide))).up (fits_cons (frD_fit (b := 130) (up_lt sp.b3 (by decide)) (up_lt sp.b4 (by decide))).up fits_nil))) (by simp)).up
abbrev n__law_any_tasks : List Str := ["_law_deck_here", "_law_many", "_law_much", "_law_tasks", "_law_number", "_law_found", "_law_one_here"]
abbrev t__law_any_tasks : DTS := (dSeq (dPar2 2 3 (dDat (dCallB 0 1 fOne (dCons (dRel (dNew [(.int 0), (.int 1), (.int 1), (.int 1), (.int 2), (.int 3)])) dNil))) (dLst dNil))
  (dSeq (dFor (diRg1 (dCons (dRel (dVar 1)) dNil)) (dName 4) (dSeq (dSetLc 5 (dLc (diRg1 (dCons (dRel (dVar 1)) dNil)) (dName 6) (dAnd (dTst (dOp oLt (dDat (dCallB 0 1 fTake (dCons (dC (.int 6)) dNil))) (dVar 2))) (dTst (dOp oNe (dVar 6) (dVar 4)))) (dRel (dVar 6)) [6]))
  (dDrop (dApp 3 (dRel (dOp oAdd (dDat (dTup (dCons (dRel (dUn oTuple (dVar 5))) dNil))) (dDat (dCallB 0 0 fSpan dNil))))))))
  (dRet (dUn oTuple (dVar 3)))))
theorem rd__law_any_tasks : ∀ b ds kk xx, ds.length = 1 → fAnyTs ds kk xx → t__law_any_tasks (bEnds b kk) (envB b n__law_any_tasks ds) := by
  unfold t__law_any_tasks n__law_any_tasks
  rintro b ds kk xx hl h
  match ds, hl, h with
  | [.int m], _, ⟨⟨m1, m5⟩, h⟩ =>
    refine seq_d fun N hN => ?_
    simp_wf
    refine ⟨⟨by decide, by decide⟩, fun mu hmu => ?_⟩
    obtain ⟨mu, rfl⟩ : ∃ z : Int, mu = .int z := by
      simp only [List.mem_cons, List.not_mem_nil, or_false] at hmu
      rcases hmu with rfl | rfl | rfl | rfl | rfl | rfl
      all_goals exact ⟨_, rfl⟩
    intro a
    refine hN _ (seq_d fun N2 hN2 => ?_)
    simp only [dFor_eq]
    simp_wf
    refine ⟨by omega, by omega, for_in (fun i e => ∃ ts x4 x5, e = [.bag b, .dat (.int m), .dat (.int mu), .own a ts, x4, x5, .no] ∧ ts.length = i ∧ ∀ d ∈ ts, Fit 130 13000 8 d) ⟨[], _, _, rfl, rfl, fun d h => by cases h⟩ ?_ ?_⟩
    · rintro i d e hd ⟨ts, x4, x5, rfl, lt, hts⟩ N3 hN3
      obtain ⟨il, rfl⟩ := rgD_get hd
      simp_wf
      refine seq_d fun N4 hN4 => ?_
      simp_wf
      simp only [dLc_eq]
      simp_wf
      refine ⟨by omega, by omega, rfl, by unfold rgD; rw [List.length_map, List.length_range]; omega, fun j acc => ∃ ns : List Int, acc = ns.map D.int ∧ ns.length ≤ j ∧ ∀ x ∈ ns, -10 ≤ x ∧ x ≤ 10, ⟨[], rfl, by simp, fun x h => by cases h⟩, ?_, ?_⟩
      · rintro j d acc hd lacc ⟨ns, rfl, ln, hns⟩
        obtain ⟨jl, rfl⟩ := rgD_get hd
        simp_wf
        refine ⟨take_ok (by decide) (by decide), fun u v0 v1 => ?_⟩
        simp_wf
        have yes : ∃ ns' : List Int, ns.map D.int ++ [D.int (0 + (j : Nat))] = ns'.map D.int ∧ ns'.length ≤ j + 1 ∧ ∀ x ∈ ns', -10 ≤ x ∧ x ≤ 10 := ⟨ns ++ [0 + ((j : Nat) : Int)], by simp, by simp; omega, fun x hx => by
          rcases List.mem_append.mp hx with hx | hx
          · exact hns x hx
          · rw [List.mem_singleton.mp hx]; omega⟩
        have no : ∃ ns' : List Int, ns.map D.int = ns'.map D.int ∧ ns'.length ≤ j + 1 ∧ ∀ x ∈ ns', -10 ≤ x ∧ x ≤ 10 := ⟨ns, rfl, by omega, hns⟩
        by_cases c1 : u < mu
        · rw [if_pos c1]
          by_cases c2 : (0 : Int) + (j : Nat) = 0 + (i : Nat)
          · rw [if_neg (fun z => z c2)]; exact no
          · rw [if_pos c2]; exact yes
        · rw [if_neg c1]; exact no
      · rintro acc lacc ⟨ns, rfl, ln, hns⟩
        simp_wf
        refine hN4 _ ?_
        simp_wf
        intro p q sp
        simp_wf
        have l5 : ns.length ≤ 5 := by
          have e : (rgD 0 m.toNat).length = m.toNat := by unfold rgD; rw [List.length_map, List.length_range]
          omega
        refine ⟨by omega, hN3 _ ⟨ts ++ [.tup [.tup (ns.map D.int), frD p, frD q]], _, _, rfl, by simp [lt], fits_app hts (fits_cons (span_fit hns l5 sp) fits_nil)⟩⟩
    · rintro e ⟨ts, x4, x5, rfl, lt, hts⟩
      refine hN2 _ ?_
      simp_wf
      unfold rgD at lt
      rw [List.length_map, List.length_range] at lt
      exact h ts lt hts
abbrev n__law_any_workers : List Str := ["_law_deck_here", "_law_some"]
abbrev t__law_any_workers : DTS := (dSeq (dIf (dTst (dOp oEq (dDat (dCallB 0 1 fTake (dCons (dC (.int 2)) dNil))) (dDat (dC (.int 0))))) (dRet (dOp oAdd (dDat (dC (.int 1))) (dDat (dCallB 0 1 fTake (dCons (dC (.int 3)) dNil))))) dNext)
  (dSeq (dSet 1 (dRel (dNew [(.int 0), (.int 1), (.int 2), (.int 3), (.int 4), (.int (-1)), (.bl true), (.bl false), .non, (.str "1"), (.tup [(.int 1)]), (.lst [(.int 2)]), (.dct [] []), (.int (10 ^ 39)), (.int (-3)), (.str ""), (.tup [])])))
  (dRet (dDat (dCallB 0 1 fOne (dCons (dRel (dVar 1)) dNil))))))
theorem rd__law_any_workers : ∀ b ds kk xx, ds.length = 0 → fAnyWk ds kk xx → t__law_any_workers (bEnds b kk) (envB b n__law_any_workers ds) := by
  unfold t__law_any_workers n__law_any_workers
  rintro b ds kk xx hl h
  match ds, hl, h with
  | [], _, h =>
    have h : ∀ d, Fit 140 300 6 d → kk d := h
    refine seq_d fun N hN => if_d fun T U hT hU => ?_
    simp_wf
    refine ⟨take_ok (by decide) (by decide), fun u v0 v1 => ?_⟩
    simp_wf
    by_cases c : u = 0
    · rw [if_pos c]
      refine hT _ ?_
      simp_wf
      refine ⟨take_ok (by decide) (by decide), fun u v0 v1 => ?_⟩
      simp_wf
      exact h _ (small_fit (by omega) (by omega)).up
    · rw [if_neg c]
      refine hU _ (hN _ (seq_d fun N2 hN2 => ?_))
      simp_wf
      refine hN2 _ ?_
      simp_wf
      exact ⟨⟨by decide, by decide⟩, fun d hd => h d (fits_of (by decide +kernel) d hd)⟩
abbrev n__law_any_order : List Str := ["_law_deck_here", "_law_many", "_law_order", "_law_some", "_law_number"]
abbrev t__law_any_order : DTS := (dSeq (dSet 2 (dRel (dUn oTuple (dDat (dCallB 0 1 fMixed (dCons (dRel (dLstRg (dRel (dVar 1)))) dNil))))))
  (dSeq (dIf (dTst (dOp oEq (dDat (dCallB 0 1 fTake (dCons (dC (.int 2)) dNil))) (dDat (dC (.int 0))))) (dRet (dVar 2)) dNext)
  (dSeq (dOwn 3 (dLst (dCons (dRel (dUn oList (dVar 2))) (dCons (dRel (dSl (dVar 2) doNone (doSome (dRel (dUn oNeg (dDat (dC (.int 1)))))))) (dCons (dRel (dOp oAdd (dVar 2) (dDat (dTup (dCons (dRel (dVar 1)) dNil))))) (dCons (dRel (dOp oAdd (dVar 2) (dVar 2))) (dCons (dRel (dUn oRev (dVar 2))) (dCons (dRel (dOp oAdd (dSl (dVar 2) (doSome (dC (.int 1))) doNone) (dSl (dVar 2) doNone (doSome (dC (.int 1)))))) dNil))))))))
  (dSeq (dOwn 3 (dOp oCatS (dVar 3) (dLst (dCons (dRel (dOp oAdd (dVar 2) (dDat (dC (.tup [(.int 0)]))))) (dCons (dRel (dUn oTuple (dLc (diSeq (dVar 2)) (dName 4) dYes (dRel (dOp oEq (dVar 4) (dDat (dC (.int 1))))) [4]))) (dCons (dTup (dCons (dRel (dVar 2)) dNil)) (dCons (dC .non) (dCons (dC (.int 0)) (dCons (dC (.str "01234")) (dCons (dC (.dct [] [])) (dCons (dTup dNil) dNil)))))))))))
  (dSeq (dDrop (dApp 3 (dRel (dUn oTuple (dLc (diSeq (dVar 2)) (dName 4) dYes (dRel (dUn oStr (dVar 4))) [4])))))
  (dSeq (dDrop (dApp 3 (dRel (dUn oTuple (dLc (diSeq (dVar 2)) (dName 4) dYes (dRel (dIfE (dTst (dOp oEq (dVar 4) (dDat (dC (.int 1))))) (dDat (dC (.bl true))) (dVar 4))) [4])))))
  (dSeq (dDrop (dApp 3 (dRel (dUn oTuple (dLc (diSeq (dVar 2)) (dName 4) dYes (dRel (dOp oSub (dDat (dC (.int 0))) (dVar 4))) [4])))))
  (dRet (dDat (dCallB 0 1 fOne (dCons (dRel (dOp oCatS (dVar 3) (dLst (dCons (dRel (dUn oTuple (dLc (diSeq (dVar 2)) (dName 4) dYes (dRel (dOp oAdd (dVar 4) (dDat (dC (.int 1))))) [4]))) dNil)))) dNil)))))))))))
theorem rd__law_any_order : ∀ b ds kk xx, ds.length = 1 → fAnyOrd ds kk xx → t__law_any_order (bEnds b kk) (envB b n__law_any_order ds) := by
  unfold t__law_any_order n__law_any_order
  rintro b ds kk xx hl h
  match ds, hl, h with
  | [.int m], _, ⟨⟨m1, m5⟩, h⟩ =>
    refine seq_d fun N hN => ?_
    simp_wf
    refine ⟨by omega, rgI m.toNat, rg_ints, by rw [rgI_len]; omega, fun ns pm => ?_⟩
    simp_wf
    have ln : ns.length ≤ 5 := by rw [pm.length_eq, rgI_len]; omega
    have hv : ∀ x ∈ ns, 0 ≤ x ∧ x < 5 := fun x hx => by have := mem_rgI.mp (pm.subset hx); omega
    have fi := ints_fit (ns := ns) fun x hx => by have := hv x hx; omega
    have lm : (ns.map D.int).length ≤ 5 := by simpa using ln
    have ft : Fit 10 1300 1 (.tup (ns.map D.int)) := (fit_tup (L := 5) fi lm).up
    refine hN _ (seq_d fun N2 hN2 => if_d fun T U hT hU => ?_)
    simp_wf
    refine ⟨take_ok (by decide) (by decide), fun u v0 v1 => ?_⟩
    simp_wf
    by_cases c : u = 0
    · rw [if_pos c]
      refine hT _ ?_
      simp_wf
      exact h _ ft.up
    · rw [if_neg c]
      refine hU _ (hN2 _ (seq_d fun N3 hN3 => ?_))
      simp_wf
      have lc1 := cut_len (ds := ns.map D.int) (lo := some 1) (hi := none)
      have lc2 := cut_len (ds := ns.map D.int) (lo := none) (hi := some 1)
      have lc3 := cut_len (ds := ns.map D.int) (lo := none) (hi := some (-1))
      have tup : ∀ {L : List D}, (∀ d ∈ L, Fit 10 250 0 d) → L.length ≤ 20 → Fit 140 20000 6 (.tup L) := fun hL ll => (fit_tup (L := 20) hL ll).up
      have app1 : ∀ x : Int, -10 ≤ x → x ≤ 10 → Fit 140 20000 6 (.tup (ns.map D.int ++ [.int x])) := fun x h0 h1 => tup (fits_app fi (fits_cons (small_fit h0 h1) fits_nil)) (by rw [List.length_append, List.length_singleton]; omega)
      -- a comprehension over the order
      have cmp : ∀ {g : DTG} {tt : DTT} {te : DTE} {vs : List Nat} {e1 : Ev} {Q : Rv → Ev → Prop} (f : Int → D), noAd e1 vs → (∀ x, 0 ≤ x → x < 5 → ∀ k : Option D → Prop, k (some (f x)) → LcT g tt te vs e1 (.int x) k) → Q (.new (ns.map f)) e1 → LcG g tt te vs (ns.map D.int) e1 Q := fun {g tt te vs e1 Q} f na turn fin => by
        refine lc_map (fun d => match d with | .int x => f x | d => d) na (by omega) (fun d hd k hk => ?_) ?_
        · obtain ⟨x, hx, rfl⟩ := List.mem_map.mp hd
          exact turn x (hv x hx).1 (hv x hx).2 k hk
        · rw [List.map_map]
          exact fin
      have tupf : ∀ (f : Int → D), (∀ x, 0 ≤ x → x < 5 → Fit 10 250 0 (f x)) → Fit 140 20000 6 (.tup (ns.map f)) := fun f hf => tup (fun d hd => by obtain ⟨x, hx, rfl⟩ := List.mem_map.mp hd; exact hf x (hv x hx).1 (hv x hx).2) (by rw [List.length_map]; omega)
      have step5 : ∀ a S, (∀ d ∈ S, Fit 140 20000 6 d) → S.length ≤ 17 → N3 [.bag b, .dat (.int m), .dat (.tup (ns.map D.int)), .own a S, .no] := fun a S hS lS => by
        refine hN3 _ (seq_d fun N4 hN4 => ?_)
        simp_wf
        simp only [dLc_eq]
        simp_wf
        refine ⟨by omega, cmp (fun x => .bl (decide (x = 1))) rfl (fun x h0 h5 k hk => ?_) ?_⟩
        · unfold LcT
          simp_wf
          exact hk
        simp_wf
        have f2 : ∀ d ∈ S ++ [D.tup (ns.map D.int ++ [.int 0]), .tup (ns.map fun x => .bl (decide (x = 1))), .tup [.tup (ns.map D.int)], .non, .int 0, .str "01234", .dct [] [], .tup []], Fit 140 20000 6 d := fits_app hS (fits_cons (app1 0 (by decide) (by decide)) (fits_cons (tupf _ fun x _ _ => fit_bl.up) (fits_cons (fit_tup (L := 1) (fits_cons ft fits_nil) (by simp)).up (fits_of (by decide +kernel)))))
        have l2 : (S ++ [D.tup (ns.map D.int ++ [.int 0]), .tup (ns.map fun x => .bl (decide (x = 1))), .tup [.tup (ns.map D.int)], .non, .int 0, .str "01234", .dct [] [], .tup []]).length ≤ 25 := by rw [List.length_append]; simp; omega
        generalize S ++ [D.tup (ns.map D.int ++ [.int 0]), .tup (ns.map fun x => .bl (decide (x = 1))), .tup [.tup (ns.map D.int)], .non, .int 0, .str "01234", .dct [] [], .tup []] = S2 at f2 l2
        refine ⟨by omega, fun a2 => hN4 _ (seq_d fun N5 hN5 => ?_)⟩
        simp_wf
        simp only [dLc_eq]
        simp_wf
        refine cmp (fun x => .str (toString x : String)) rfl (fun x h0 h5 k hk => ?_) ?_
        · unfold LcT
          simp_wf
          exact ⟨log1920 (by omega), hk⟩
        simp_wf
        refine ⟨by omega, hN5 _ (seq_d fun N6 hN6 => ?_)⟩
        have f3 := fits_app f2 (fits_cons (tupf (fun x => .str (toString x : String)) fun x h0 h5 => digit_fit h0 h5) fits_nil)
        have l3 : (S2 ++ [D.tup (ns.map fun x => D.str (toString x : String))]).length ≤ 26 := by rw [List.length_append, List.length_singleton]; omega
        generalize S2 ++ [D.tup (ns.map fun x => D.str (toString x : String))] = S3 at f3 l3
        simp_wf
        simp only [dLc_eq]
        simp_wf
        refine cmp (fun x => if x = 1 then .bl true else .int x) rfl (fun x h0 h5 k hk => ?_) ?_
        · unfold LcT
          simp_wf
          by_cases c1 : x = 1
          · rw [if_pos c1] at hk ⊢
            exact hk
          · rw [if_neg c1] at hk ⊢
            exact hk
        simp_wf
        refine ⟨by omega, hN6 _ (seq_d fun N7 hN7 => ?_)⟩
        have f4 := fits_app f3 (fits_cons (tupf (fun x => if x = 1 then .bl true else .int x) fun x h0 h5 => by
          by_cases c1 : x = 1
          · rw [if_pos c1]; exact fit_bl.up
          · rw [if_neg c1]; exact small_fit (by omega) (by omega)) fits_nil)
        have l4 : (S3 ++ [D.tup (ns.map fun x => if x = 1 then D.bl true else .int x)]).length ≤ 27 := by rw [List.length_append, List.length_singleton]; omega
        generalize S3 ++ [D.tup (ns.map fun x => if x = 1 then D.bl true else .int x)] = S4 at f4 l4
        simp_wf
        simp only [dLc_eq]
        simp_wf
        refine cmp (fun x => .int (0 - x)) rfl (fun x h0 h5 k hk => ?_) ?_
        · unfold LcT
          simp_wf
          exact hk
        simp_wf
        refine ⟨by omega, hN7 _ ?_⟩
        have f5 := fits_app f4 (fits_cons (tupf (fun x => .int (0 - x)) fun x h0 h5 => small_fit (by omega) (by omega)) fits_nil)
        have l5 : (S4 ++ [D.tup (ns.map fun x => D.int (0 - x))]).length ≤ 28 := by rw [List.length_append, List.length_singleton]; omega
        generalize S4 ++ [D.tup (ns.map fun x => D.int (0 - x))] = S5 at f5 l5
        simp_wf
        simp only [dLc_eq]
        simp_wf
        refine cmp (fun x => .int (x + 1)) rfl (fun x h0 h5 k hk => ?_) ?_
        · unfold LcT
          simp_wf
          exact hk
        simp_wf
        refine ⟨by omega, ⟨by simp, by simp; omega⟩, fun d hd => h d (fits_app f5 (fits_cons (tupf (fun x => .int (x + 1)) fun x h0 h5 => small_fit (by omega) (by omega)) fits_nil) d hd)⟩
      refine ⟨by omega, by omega, by omega, fun a => step5 a _ ?_ (by simp)⟩
      exact fits_cons (fit_lst (L := 5) fi lm).up (fits_cons (tup (fits_cut fi) (by omega)) (fits_cons (app1 m (by omega) (by omega)) (fits_cons (tup (fits_app fi fi) (by rw [List.length_append]; omega)) (fits_cons (tup (fits_rev fi) (by rw [List.length_reverse]; omega)) (fits_cons (tup (fits_app (fits_cut fi) (fits_cut fi)) (by rw [List.length_append]; omega)) fits_nil)))))
abbrev n_law_k03 : List Str := ["_law_script", "_law_deck_here", "_law_turn", "_law_many", "_law_tasks", "_law_order", "_law_workers", "_law_wrong", "_law_due", "_law_found"]
abbrev t_law_k03 (C_Plan : Addr) (C_BadPlan : Addr) : DTS := (dSeq (dDeck 1 0)
  (dSeq (dFor (diRg1 (dCons (dC (.int 8)) dNil)) (dName 2) (dSeq (dSet 3 (dRel (dOp oAdd (dDat (dC (.int 1))) (dDat (dCallB 1 1 fTake (dCons (dC (.int 5)) dNil))))))
  (dSeq (dPar2 4 5 (dDat (dCallB 1 1 fAnyTs (dCons (dRel (dVar 3)) dNil))) (dDat (dCallB 1 1 fAnyOrd (dCons (dRel (dVar 3)) dNil))))
  (dSeq (dSet 6 (dCallB 1 0 fAnyWk dNil))
  (dSeq (dSet 7 (dCall 3 fPlanE (fun _ => False) (dCons (dRel (dVar 4)) (dCons (dRel (dVar 5)) (dCons (dRel (dVar 6)) dNil)))))
  (dSeq (dSet 8 (dRel (dIfE (dTst (dOp (oIsN false) (dVar 7) (dDat (dC .non)))) (dLst (dCons (dRel (dVar 4)) (dCons (dRel (dVar 5)) (dCons (dRel (dVar 6)) dNil)))) (dDat (dCall 1 fDueE (fun _ => False) (dCons (dRel (dVar 7)) dNil))))))
  (dSeq (dSet 9 (dRel (dLst (dCons (dCall 3 fMade (fun _ => False) (dCons (dRel (dVar 4)) (dCons (dRel (dVar 5)) (dCons (dRel (dVar 6)) dNil)))) (dCons (dCall 3 fMade (fun _ => False) (dCons (dRel (dVar 4)) (dCons (dRel (dVar 5)) (dCons (dRel (dVar 6)) dNil)))) dNil)))))
  (dIf (dTst (dOp (oStrs true) (dUn oRepr (dVar 9)) (dUn oRepr (dLst (dCons (dRel (dVar 8)) (dCons (dRel (dVar 8)) dNil)))))) (dRet (dDat (dC (.bl false)))) dNext))))))))
  (dRet (dDat (dC (.bl true))))))
theorem rd_law_k03 {C_Plan : Addr} {C_BadPlan : Addr} : ∀ ns : List Int, ns.length ≤ 63 → t_law_k03 C_Plan C_BadPlan lEnds (env0 n_law_k03 [.lst (ns.map D.int)]) := by
  unfold t_law_k03 n_law_k03
  intro ns l63
  refine seq_d fun N hN => ?_
  simp_wf
  refine ⟨⟨ns, rfl, l63⟩, fun b => hN _ (seq_d fun N2 hN2 => ?_)⟩
  simp only [dFor_eq]
  simp_wf
  refine ⟨by decide, by decide, for_in (fun i e => ∃ x2 x3 x4 x5 x6 x7 x8 x9, e = [.dat (.lst (ns.map D.int)), .bag b, x2, x3, x4, x5, x6, x7, x8, x9]) ⟨_, _, _, _, _, _, _, _, rfl⟩ ?_ ?_⟩
  · rintro i d e hd ⟨x2, x3, x4, x5, x6, x7, x8, x9, rfl⟩ N3 hN3
    simp_wf
    refine seq_d fun N4 hN4 => ?_
    simp_wf
    refine ⟨take_ok (by decide) (by decide), fun u v0 v1 => ?_⟩
    simp_wf
    refine hN4 _ (seq_d fun N5 hN5 => ?_)
    simp_wf
    refine ⟨⟨by omega, by omega⟩, fun ts lt fts => ?_⟩
    simp_wf
    refine ⟨⟨by omega, by omega⟩, fun o fo => ?_⟩
    simp_wf
    have ft0 : Fit 140 65100 9 (.tup ts) := (fit_tup (L := 5) (b := 130) (n := 13000) (m := 8) fts (by omega)).up
    refine hN5 _ (seq_d fun N6 hN6 => ?_)
    simp_wf
    intro w fw
    have fo' := fo.up (b' := 140) (n' := 65100) (m' := 9)
    have fw' := fw.up (b' := 140) (n' := 65100) (m' := 9)
    have fd := due_fit ft0 fo' fw' (by decide) (by decide)
    refine hN6 _ (seq_d fun N7 hN7 => ?_)
    simp_wf
    refine ⟨⟨ft0.small, fo'.small, fw'.small⟩, hN7 _ (seq_d fun N8 hN8 => ?_)⟩
    simp_wf
    have rest : N8 [.dat (.lst (ns.map D.int)), .bag b, .dat d, .dat (.int (1 + u)), .dat (.tup ts), .dat o, .dat w, .dat (errD (planE (.tup ts) o w)), .dat (dueP (.tup ts) o w (planE (.tup ts) o w)), x9] := by
      refine hN8 _ (seq_d fun N9 hN9 => ?_)
      simp_wf
      refine ⟨⟨ft0.small, fo'.small, fw'.small⟩, ⟨ft0.small, fo'.small, fw'.small⟩, ?_⟩
      generalize dueP (.tup ts) o w (planE (.tup ts) o w) = q at fd ⊢
      have f2 : Fit 140 700000 12 (.lst [q, q]) := (fit_lst (L := 2) (fits_cons fd (fits_cons fd fits_nil)) (by simp)).up
      refine hN9 _ (if_d fun T U hT hU => ?_)
      simp_wf
      refine ⟨f2.r, f2.r, ?_⟩
      rw [if_neg (fun z => z trivial)]
      exact hU _ (hN3 _ ⟨_, _, _, _, _, _, _, _, rfl⟩)
    cases e : planE (.tup ts) o w with
    | none =>
      rw [e] at rest
      exact rest
    | some p =>
      rw [e] at rest
      obtain ⟨n, y⟩ := p
      exact rest
  · rintro e ⟨x2, x3, x4, x5, x6, x7, x8, x9, rfl⟩
    refine hN2 _ ?_
    simp_wf
end KK
namespace KK
open PySem PySem.Spec PyProof.Rows L2 LL DL K01
/-! ### drawn plans are plans -/
theorem pw_asc : ∀ {ns : List Int}, ns.Pairwise (· < ·) → ascI ns = true
  | [], _ => rfl
  | [_], _ => rfl
  | x :: y :: ns, h => by
    have h1 := List.pairwise_cons.mp h
    have e : ascI (x :: y :: ns) = (decide (x < y) && ascI (y :: ns)) := rfl
    rw [e, pw_asc h1.2, decide_eq_true (h1.1 y List.mem_cons_self)]
    rfl
theorem TaskD.word {m i : Nat} {line : List Int} {d : D} (h : TaskD m line i d) (pm : line.Perm (rgI m)) : wordD (i : Nat) (m : Nat) d = none := by
  obtain ⟨ns, p, q, rfl, pw, hv, sp⟩ := h.ex
  have a1 : (ns.map D.int).all (isNum (m : Nat)) = true := by
    rw [List.all_map, List.all_eq_true]
    intro x hx
    have := mem_rgI.mp (pm.subset (hv x hx).1)
    show (decide (0 ≤ x) && decide (x < (m : Int))) = true
    rw [decide_eq_true this.1, decide_eq_true this.2]
    rfl
  have a2 : ascD (m : Nat) (.tup (ns.map D.int)) = true := by
    show ((ns.map D.int).all (isNum (m : Nat)) && ascI ((intsOf (ns.map D.int)).getD [])) = true
    rw [a1, intsOf_map, Option.getD_some, pw_asc pw]
    rfl
  have a3 : hasD (i : Nat) (.tup (ns.map D.int)) = false := by
    show inD (.int (i : Nat)) (ns.map D.int) = false
    rw [inD_ints]
    exact decide_eq_false fun z => by have := (hv _ z).2; omega
  show (if (ascD (m : Nat) (.tup (ns.map D.int)) && !hasD (i : Nat) (.tup (ns.map D.int))) = true then (if isLow (frD p) = true then (if (isFD (frD q) && !lessD (frD q) (frD p)) = true then none else some ("high" : Str)) else some ("low" : Str)) else some ("forerunners" : Str)) = none
  rw [a2, a3, sp.low, sp.high, sp.le]
  rfl
theorem firstW_all {m : Int} : ∀ {ts : List D} {i : Nat}, (∀ (j : Nat) (t : D), ts[j]? = some t → wordD ((i + j : Nat) : Int) m t = none) → firstW m i ts = none
  | [], _, _ => rfl
  | t :: ts, i, h => by
    have e : firstW m i (t :: ts) = (match wordD i m t with | some x => some (i, x) | none => firstW m (i + 1) ts) := rfl
    have h0 : wordD (i : Nat) m t = none := h 0 t rfl
    rw [e, h0]
    exact firstW_all fun j t' z => by
      have := h (j + 1) t' z
      rw [show i + 1 + j = i + (j + 1) by omega]
      exact this
theorem TasksD.first {m : Nat} {ts : List D} (h : TasksD m ts) : firstW ts.length 0 ts = none := by
  obtain ⟨l, line, pm, hall⟩ := h
  refine firstW_all fun j t z => ?_
  rw [l, Nat.zero_add]
  exact (hall j t z).word pm
theorem TasksD.noring {m : Nat} {ts : List D} (h : TasksD m ts) : ¬ Ring ts := by
  obtain ⟨l, line, pm, hall⟩ := h
  rintro ⟨fs, g, n, n0, n1, r⟩
  have up : ∀ {n x : Int}, 0 ≤ n → ∀ {f : List Int}, fs[n.toNat]? = some f → x ∈ f → line.idxOf x < line.idxOf n := fun {n x} n0 {f} hf hx => by
    obtain ⟨lo, hi, e⟩ := g.at_ _ _ hf
    obtain ⟨ns, p, q, e2, _, hv, _⟩ := (hall _ _ e).ex
    injection e2 with e3
    injection e3 with e3 _
    injection e3 with e3
    have e4 := ints_inj e3
    subst e4
    have := (hv x hx).2
    rwa [show ((n.toNat : Nat) : Int) = n by omega] at this
  have all : ∀ {a b : Int}, Rch fs a b → line.idxOf b < line.idxOf a := fun {a b} r => by
    induction r with
    | one h n0 m => exact up n0 h m
    | more r h x0 m ih => exact Nat.lt_trans (up x0 h m) ih
  exact Nat.lt_irrefl _ (all r)
theorem sort_rg {m : Nat} {ns : List Int} (pm : ns.Perm (rgI m)) : sortI ns = rgI m := by
  have nd : ns.Nodup := pm.nodup_iff.mpr rgI_nodup
  have p1 := sortI_pw nd
  have p2 : (rgI m).Pairwise (· < ·) := by
    unfold rgI
    refine List.Pairwise.map _ (fun a b h => ?_) List.pairwise_lt_range
    show (a : Int) < b
    omega
  have pp : (sortI ns).Perm (rgI m) := (List.mergeSort_perm ns _).trans pm
  exact pp.eq_of_pairwise (le := (· < ·)) (fun a b _ _ h1 h2 => by omega) p1 p2
theorem OrdD.ok {m : Nat} {o : D} (h : OrdD m o) : okOrd m o = true := by
  obtain ⟨ns, rfl, pm⟩ := h
  show ((ns.map D.int).all (isNum (m : Nat)) && decide (sortI ((intsOf (ns.map D.int)).getD []) = rgI m)) = true
  rw [intsOf_map, Option.getD_some, sort_rg pm, decide_eq_true rfl, Bool.and_true, List.all_map, List.all_eq_true]
  intro x hx
  have := mem_rgI.mp (pm.subset hx)
  show (decide (0 ≤ x) && decide (x < (m : Int))) = true
  rw [decide_eq_true this.1, decide_eq_true this.2]
  rfl
theorem wk_ok {w : Int} (h1 : 1 ≤ w) (h3 : w ≤ 3) : okWk (.int w) = true := by
  show (decide (1 ≤ w) && decide (w ≤ 3)) = true
  rw [decide_eq_true h1, decide_eq_true h3]
  rfl
theorem plan_ok {m : Nat} {ts : List D} {o : D} {w : Int} (m1 : 1 ≤ m) (m5 : m ≤ 5) (h : TasksD m ts) (ho : OrdD m o) (w1 : 1 ≤ w) (w3 : w ≤ 3) : planE (.tup ts) o (.int w) = none :=
  planE_n (tasksE_n ⟨by rw [h.1]; exact m1, by rw [h.1]; exact m5⟩ h.first h.noring) (by rw [h.1]; exact ho.ok) (wk_ok w1 w3)
/-! ### numbers of tasks -/
def noT (C : Addr) (n : D) : Er := ⟨C, ["number"], [n]⟩
def fChk (C CN : Addr) : DF := fun ds k x => match ds with
  | [.obj C' ns [.tup ts, _, _], n] => (C' = C ∧ ns = pNs ∧ ts.length ≤ 5 ∧ noObj n = true) ∧ (isNum ts.length n = true → k .non) ∧ (isNum ts.length n = false → x (noT CN n))
  | _ => False
def dueN (n : D) : D := .lst [.str "none", n, .bl true, .bl false]
def eNone : DFE := fun ns ds k => match ds with
  | [n] => ns = (["number"] : List Str) ∧ k (dueN n)
  | _ => False
def fOddN : DF := fun ds k _ => match ds with
  | [.int m] => (1 ≤ m ∧ m ≤ 5) ∧ ∀ d, Fit 131 300 6 d → k d
  | _ => False
abbrev n_Plan_check_number : List Str := ["self", "number"]
abbrev t_Plan_check_number (C_NoTask : Addr) (C_Plan : Addr) (xx : Er → Prop) : DTS := (dIf (dNot (dTst (dDat (dCall 2 fIsNum (fun _ => False) (dCons (dRel (dVar 1)) (dCons (dRel (dUn oLen (dDat (dFld C_Plan "held_tasks" (dRel (dVar 0)))))) dNil)))))) (dRaise1 C_NoTask "number" xx (dCons (dRel (dVar 1)) dNil)) dNext)
theorem rd_Plan_check_number {C_NoTask : Addr} {C_Plan : Addr} : ∀ xx ds kk, ds.length = 2 → (fChk C_Plan C_NoTask) ds kk xx → t_Plan_check_number C_NoTask C_Plan xx (dEnds kk) (env0 n_Plan_check_number ds) := by
  unfold t_Plan_check_number n_Plan_check_number
  intro xx
  rintro ds kk hl h
  match ds, hl, h with
  | [.obj C' ns [.tup ts, o, w], n], _, ⟨⟨e1, e2, l5, hn⟩, h1, h2⟩ =>
    subst e1 e2
    refine if_d fun T U hT hU => ?_
    simp_wf
    show (Rv.dat (.tup ts)).seq _
    simp_wf
    refine ⟨hn, ?_⟩
    cases c : isNum ts.length n with
    | true =>
      simp_wf
      exact hU _ (h1 c)
    | false =>
      simp_wf
      refine hT _ ?_
      simp_wf
      exact h2 c
abbrev n__law_told_none : List Str := ["_law_error"]
abbrev t__law_told_none (C_NoTask : Addr) (a dd : Addr) : DTS := (dRet (dLst (dCons (dC (.str "none")) (dCons (dXf 0 a dd "number") (dCons (dIsX 0 a dd true) (dCons (dIsX 0 a dd false) dNil))))))
theorem rd__law_told_none {C_NoTask : Addr} : ∀ a dd ns ds kk, eNone ns ds kk → t__law_told_none C_NoTask a dd (dEnds kk) (env0E n__law_told_none a dd ns ds) := by
  unfold t__law_told_none n__law_told_none
  rintro a dd ns ds kk h
  match ds, h with
  | [n], ⟨e, h1⟩ =>
    subst e
    simp_wf
    exact h1
abbrev n__law_is_number : List Str := ["_law_value", "_law_many"]
abbrev t__law_is_number : DTS := (dRet (dAndV (dDat (dCall 1 fWhole (fun _ => False) (dCons (dRel (dVar 0)) dNil))) (dChain oLe oLt (dDat (dC (.int 0))) (dVar 0) (dVar 1))))
theorem rd__law_is_number : ∀ ds kk xx, ds.length = 2 → fIsNum ds kk xx → t__law_is_number (dEnds kk) (env0 n__law_is_number ds) := by
  unfold t__law_is_number n__law_is_number
  rintro ds kk xx hl h
  match ds, hl, h with
  | [d, .int m], _, ⟨hn, h⟩ =>
    simp_wf
    refine ⟨hn, ?_⟩
    cases d with
    | int i =>
      have h : kk (.bl (decide (0 ≤ i) && decide (i < m))) := h
      simp only [isID]
      simp_wf
      by_cases h0 : (0 : Int) ≤ i
      · simp only [h0, decide_true, Bool.true_and] at h
        rw [if_pos h0]
        exact h
      · simp only [h0, decide_false, Bool.false_and] at h
        rw [if_neg h0]
        exact h
    | _ => exact h
abbrev n__law_odd_number : List Str := ["_law_deck_here", "_law_many", "_law_some"]
abbrev t__law_odd_number : DTS := (dSeq (dIf (dTst (dOp oGt (dDat (dCallB 0 1 fTake (dCons (dC (.int 3)) dNil))) (dDat (dC (.int 0))))) (dRet (dDat (dCallB 0 1 fTake (dCons (dRel (dVar 1)) dNil)))) dNext)
  (dSeq (dSet 2 (dRel (dLst (dCons (dRel (dVar 1)) (dCons (dRel (dUn oNeg (dDat (dC (.int 1))))) (dCons (dRel (dUn oNeg (dVar 1))) (dCons (dC (.bl true)) (dCons (dC (.bl false)) (dCons (dC .non) (dCons (dC (.str "0")) (dCons (dC (.tup [(.int 0)])) (dCons (dRel (dLst dNil)) (dCons (dC (.dct [] [])) (dCons (dC (.int (10 ^ 39))) (dCons (dTup dNil) (dCons (dC (.str "")) (dCons (dRel (dNew [(.int 0)])) (dCons (dRel (dOp oAdd (dVar 1) (dDat (dC (.int 1))))) dNil))))))))))))))))))
  (dRet (dDat (dCallB 0 1 fOne (dCons (dRel (dVar 2)) dNil))))))
theorem rd__law_odd_number : ∀ b ds kk xx, ds.length = 1 → fOddN ds kk xx → t__law_odd_number (bEnds b kk) (envB b n__law_odd_number ds) := by
  unfold t__law_odd_number n__law_odd_number
  rintro b ds kk xx hl h
  match ds, hl, h with
  | [.int m], _, ⟨⟨m1, m5⟩, h⟩ =>
    refine seq_d fun N hN => if_d fun T U hT hU => ?_
    simp_wf
    refine ⟨take_ok (by decide) (by decide), fun u v0 v1 => ?_⟩
    simp_wf
    by_cases c : 0 < u
    · rw [if_pos c]
      refine hT _ ?_
      simp_wf
      refine ⟨take_ok (by omega) (by omega), fun u v0 v1 => ?_⟩
      exact h _ (fit_int (b := 10) (by have k10 : (2 : Nat) ^ 10 = 1024 := rfl; omega)).up
    · rw [if_neg c]
      refine hU _ (hN _ (seq_d fun N2 hN2 => ?_))
      simp only [↓dSet, ↓dRel, ↓dLst, ↓dCons, ↓dC, ↓dVar, ↓dUn, ↓dOp, ↓dDat, ↓dNil, ↓dTup, ↓dNew, List.getElem?_cons_zero, List.getElem?_cons_succ, envB_1, ↓r_rel_dat, ↓r_rd_dat, ↓r_rel_new, ↓r_rd_new, ↓oa_ii, ↓on_i]
      simp_wf
      refine hN2 _ ?_
      simp_wf
      have fi : ∀ x : Int, -10 ≤ x → x ≤ 10 → Fit 131 300 6 (.int x) := fun x h0 h1 => (fit_int (b := 10) (by have k10 : (2 : Nat) ^ 10 = 1024 := rfl; omega)).up
      refine ⟨⟨by simp, by simp⟩, fun d hd => h d ?_⟩
      exact fits_cons (fi _ (by omega) (by omega)) (fits_cons (fi _ (by omega) (by omega)) (fits_cons (fi _ (by omega) (by omega)) (fits_app (xs := [D.bl true, D.bl false, D.non, D.str "0", D.tup [D.int 0], D.lst [], D.dct [] [], D.int (10 ^ 39), D.tup [], D.str "", D.lst [D.int 0]]) (fits_of (by decide +kernel)) (fits_cons (fi (m + 1) (by omega) (by omega)) fits_nil)))) d hd
end KK
namespace KK
open PySem PySem.Spec PyProof.Rows L2 LL DL K01
theorem lk_t {t o w : D} : List.lookup (Str.ofString "held_tasks") (pNs.zip [t, o, w]) = some t := rfl
theorem lk_o {t o w : D} : List.lookup (Str.ofString "held_order") (pNs.zip [t, o, w]) = some o := rfl
theorem lk_w {t o w : D} : List.lookup (Str.ofString "held_workers") (pNs.zip [t, o, w]) = some w := rfl
theorem isNum_int {m : Int} {n : D} (h : isNum m n = true) : ∃ i : Int, n = .int i ∧ 0 ≤ i ∧ i < m := by
  cases n with
  | int i =>
    have h : (decide (0 ≤ i) && decide (i < m)) = true := h
    obtain ⟨a, b⟩ := Bool.and_eq_true_iff.mp h
    exact ⟨i, rfl, of_decide_eq_true a, of_decide_eq_true b⟩
  | _ => cases h
theorem isNum_no {m : Int} {i : Int} (h : isNum m (.int i) = false) : ¬ (0 ≤ i ∧ i < m) := fun ⟨a, b⟩ => by
  have h : (decide (0 ≤ i) && decide (i < m)) = false := h
  rw [decide_eq_true a, decide_eq_true b] at h
  cases h
def fWT (C CB CN : Addr) : DF := fun ds k x => match ds with
  | [.obj C' ns [.tup ts, o, w], n, d] => (C' = C ∧ ns = pNs ∧ ts.length ≤ 5 ∧ noObj n = true ∧ o.small = true ∧ w.small = true) ∧ (isNum ts.length n = false → x (noT CN n)) ∧
    ∀ i : Int, n = .int i → 0 ≤ i → i < ts.length → (D.tup (ts.set i.toNat d)).small = true ∧ (planE (.tup (ts.set i.toNat d)) o w = none → k (.obj C pNs [.tup (ts.set i.toNat d), o, w])) ∧ ∀ y z, planE (.tup (ts.set i.toNat d)) o w = some (y, z) → x (bad CB y z)
  | _ => False
noncomputable def due5 (ts : List D) (o w n d : D) : D := match n with
  | .int i => if 0 ≤ i ∧ i < ts.length then dueP (.tup (ts.set i.toNat d)) o w (planE (.tup (ts.set i.toNat d)) o w) else dueN n
  | _ => dueN n
noncomputable def fMade5 (C : Addr) : DF := fun ds k _ => match ds with
  | [.obj C' ns [.tup ts, o, w], n, d] => (C' = C ∧ ns = pNs ∧ ts.length ≤ 5 ∧ noObj n = true ∧ o.small = true ∧ w.small = true) ∧ (∀ i : Int, n = .int i → 0 ≤ i → i < ts.length → (D.tup (ts.set i.toNat d)).small = true) ∧ k (due5 ts o w n d)
  | _ => False
abbrev n_Plan_with_task : List Str := ["self", "number", "task", "tasks"]
abbrev t_Plan_with_task (C_BadPlan : Addr) (C_NoTask : Addr) (C_Plan : Addr) (xx : Er → Prop) : DTS := (dSeq (dDrop (dDat (dMeth C_Plan "check_number" 1 (fChk C_Plan C_NoTask) xx (dRel (dVar 0)) (dCons (dRel (dVar 1)) dNil))))
  (dSeq (dSet 3 (dRel (dOp oAdd (dOp oAdd (dSl (dDat (dFld C_Plan "held_tasks" (dRel (dVar 0)))) doNone (doSome (dRel (dVar 1)))) (dDat (dTup (dCons (dRel (dVar 2)) dNil)))) (dSl (dDat (dFld C_Plan "held_tasks" (dRel (dVar 0)))) (doSome (dRel (dOp oAdd (dVar 1) (dDat (dC (.int 1)))))) doNone))))
  (dRet (dDat (dCall 3 (fPlan C_Plan C_BadPlan) xx (dCons (dRel (dVar 3)) (dCons (dFld C_Plan "held_order" (dRel (dVar 0))) (dCons (dFld C_Plan "held_workers" (dRel (dVar 0))) dNil))))))))
theorem rd_Plan_with_task {C_BadPlan : Addr} {C_NoTask : Addr} {C_Plan : Addr} : ∀ xx ds kk, ds.length = 3 → (fWT C_Plan C_BadPlan C_NoTask) ds kk xx → t_Plan_with_task C_BadPlan C_NoTask C_Plan xx (dEnds kk) (env0 n_Plan_with_task ds) := by
  unfold t_Plan_with_task n_Plan_with_task
  intro xx
  rintro ds kk hl h
  match ds, hl, h with
  | [.obj C' ns [.tup ts, o, w], n, d], _, ⟨⟨e1, e2, l5, hn, so, sw⟩, h1, h2⟩ =>
    subst e1 e2
    refine seq_d fun N hN => ?_
    simp_wf
    refine ⟨by decide +kernel, ⟨rfl, rfl, l5, hn⟩, fun z => hN _ (seq_d fun N2 hN2 => ?_), h1⟩
    obtain ⟨i, e, i0, i1⟩ := isNum_int z
    subst e
    obtain ⟨sm, h3, h4⟩ := h2 i rfl i0 i1
    simp_wf
    simp only [lk_t]
    simp_wf
    have e1 := cut_to (ds := ts) i0
    have e2 := cut_from (ds := ts) (n := i + 1) (by omega)
    rw [e1, e2]
    have l1 := List.length_take (i := i.toNat) (l := ts)
    have l2 := List.length_drop (i := (i + 1).toNat) (l := ts)
    refine ⟨by omega, by rw [List.length_append, List.length_singleton]; omega, hN2 _ ?_⟩
    rw [show (i + 1).toNat = i.toNat + 1 by omega, set_cut (ds := []) (by omega)]
    simp_wf
    show fPlan C' C_BadPlan [D.tup (ts.set i.toNat d), o, w] (fun d => kk d) xx
    exact ⟨⟨sm, so, sw⟩, h3, h4⟩
abbrev n__law_made_k05 : List Str := ["_law_plan", "_law_number", "_law_task", "_law_found", "_law_error"]
abbrev t__law_made_k05 (C_Plan : Addr) (C_BadPlan : Addr) (C_NoTask : Addr) : DTS := (dSeq (dSet 3 (dC .non))
  (dSeq (dTry (fun xr => (dSet 3 (dCall 1 (fTold C_Plan) (fun _ => False) (dCons (dMethT C_Plan "with_task" 2 (fWT C_Plan C_BadPlan C_NoTask) xr (dRel (dVar 0)) (dCons (dRel (dVar 1)) (dCons (dRel (dVar 2)) dNil))) dNil)))) (⟨[(C_BadPlan, true), (C_NoTask, false)], some 4, fun C a dd => (dSet 3 (dCallE 4 a dd eTold))⟩ :: (⟨[(C_BadPlan, false), (C_NoTask, true)], some 4, fun C a dd => (dSet 3 (dCallE 4 a dd eNone))⟩ :: [])))
  (dRet (dVar 3))))
theorem rd__law_made_k05 {C_Plan : Addr} {C_BadPlan : Addr} {C_NoTask : Addr} : ∀ ds kk xx, ds.length = 3 → (fMade5 C_Plan) ds kk xx → t__law_made_k05 C_Plan C_BadPlan C_NoTask (dEnds kk) (env0 n__law_made_k05 ds) := by
  unfold t__law_made_k05 n__law_made_k05
  rintro ds kk xx hl h
  match ds, hl, h with
  | [.obj C' ns [.tup ts, o, w], n, d], _, ⟨⟨e1, e2, l5, hn, so, sw⟩, h1, hk⟩ =>
    subst e1 e2
    refine seq_d fun N hN => ?_
    simp_wf
    refine hN _ (seq_d fun N2 hN2 => ?_)
    simp_wf
    have fin : due5 ts o w n d = due5 ts o w n d → ∀ x, x = due5 ts o w n d → N2 [.dat (.obj C' pNs [.tup ts, o, w]), .dat n, .dat d, .dat x, .no] := fun _ x e => by
      refine hN2 _ ?_
      simp_wf
      rw [e]
      exact hk
    refine ⟨by decide +kernel, ⟨rfl, rfl, l5, hn, so, sw⟩, fun z => ⟨false, List.mem_cons_of_mem _ List.mem_cons_self, (fun z => nomatch z), fun _ => ⟨true, List.mem_cons_of_mem _ List.mem_cons_self, fun _ a dd => ?_, fun z => nomatch z⟩⟩, fun i e i0 i1 => ⟨h1 i e i0 i1, fun z => ⟨⟨rfl, rfl⟩, fin rfl _ ?_⟩, fun y x z => ⟨true, List.mem_cons_self, fun _ a dd => ?_, fun z => nomatch z⟩⟩⟩
    · simp only [Hn.ends, Hn.env, noT]
      simp_wf
      refine ⟨rfl, fin rfl _ ?_⟩
      cases n with
      | int i =>
        show _ = if _ then _ else _
        rw [if_neg (isNum_no z)]
      | _ => rfl
    · subst e
      show _ = if _ then _ else _
      rw [if_pos ⟨i0, i1⟩, z]
      rfl
    · subst e
      simp only [Hn.ends, Hn.env, bad]
      simp_wf
      refine ⟨rfl, fin rfl _ ?_⟩
      show _ = if _ then _ else _
      rw [if_pos ⟨i0, i1⟩, z]
      rfl
def fFresh : DF := fun ds k _ => match ds with
  | [.int i, .int m] => (0 ≤ i ∧ i < m ∧ m ≤ 5) ∧ ∀ d, wordD i m d = none → Fit 130 13000 8 d → k d
  | _ => False
noncomputable def fDue5 : DF := fun ds k _ => match ds with
  | [.tup ts, o, w, n, d] => (1 ≤ ts.length ∧ ts.length ≤ 5 ∧ noObj n = true ∧ d.small = true) ∧ (firstW ts.length 0 ts = none ∧ okOrd ts.length o = true ∧ okWk w = true) ∧ k (due5 ts o w n d)
  | _ => False
theorem env0_5 {x1 x2 x3 x4 x5 : Str} {N : List Str} {a b c d e : D} : env0 (x1 :: x2 :: x3 :: x4 :: x5 :: N) [a, b, c, d, e] = Sl.dat a :: Sl.dat b :: Sl.dat c :: Sl.dat d :: Sl.dat e :: noS N.length := by unfold env0; simp
theorem word_right {ns : List Int} {p q : Int × Int} {m i : Int} (pw : ns.Pairwise (· < ·)) (hv : ∀ x ∈ ns, 0 ≤ x ∧ x < m) (ni : i ∉ ns) (sp : Span p q) : wordD i m (.tup [.tup (ns.map D.int), frD p, frD q]) = none := by
  have a1 : (ns.map D.int).all (isNum m) = true := by
    rw [List.all_map, List.all_eq_true]
    intro x hx
    have := hv x hx
    show (decide (0 ≤ x) && decide (x < m)) = true
    rw [decide_eq_true this.1, decide_eq_true this.2]
    rfl
  have a2 : ascD m (.tup (ns.map D.int)) = true := by
    show ((ns.map D.int).all (isNum m) && ascI ((intsOf (ns.map D.int)).getD [])) = true
    rw [a1, intsOf_map, Option.getD_some, pw_asc pw]
    rfl
  have a3 : hasD i (.tup (ns.map D.int)) = false := by
    show inD (.int i) (ns.map D.int) = false
    rw [inD_ints]
    exact decide_eq_false ni
  show (if (ascD m (.tup (ns.map D.int)) && !hasD i (.tup (ns.map D.int))) = true then (if isLow (frD p) = true then (if (isFD (frD q) && !lessD (frD q) (frD p)) = true then none else some ("high" : Str)) else some ("low" : Str)) else some ("forerunners" : Str)) = none
  rw [a2, a3, sp.low, sp.high, sp.le]
  rfl
theorem task_fit {ns : List Int} {p q : Int × Int} (h : ∀ x ∈ ns, -10 ≤ x ∧ x ≤ 10) (l5 : ns.length ≤ 5) (sp : Span p q) : Fit 130 13000 8 (.tup [.tup (ns.map D.int), frD p, frD q]) := by
  have fi : ∀ d ∈ ns.map D.int, Fit 10 250 0 d := fun d hd => by
    obtain ⟨x, hx, rfl⟩ := List.mem_map.mp hd
    have := h x hx
    exact fit_int (by have k10 : (2 : Nat) ^ 10 = 1024 := rfl; omega)
  have fA : Fit 10 1500 2 (.tup (ns.map D.int)) := (fit_tup (L := 5) fi (by simpa using l5)).up
  exact (fit_tup (L := 3) (fits_cons (fA.up (b' := 130) (n' := 1500) (m' := 2)) (fits_cons (frD_fit (b := 130) (up_lt sp.b1 (by decide)) (up_lt sp.b2 (by decide))).up (fits_cons (frD_fit (b := 130) (up_lt sp.b3 (by decide)) (up_lt sp.b4 (by decide))).up fits_nil))) (by simp)).up
theorem firstW_set {m : Int} {d : D} {y : Str} : ∀ {ts : List D} {k i : Nat}, firstW m k ts = none → i < ts.length → wordD ((k + i : Nat) : Int) m d = some y → firstW m k (ts.set i d) = some (k + i, y)
  | t :: ts, k, 0, h, l, hw => by
    have hw : wordD ((k : Nat) : Int) m d = some y := hw
    show (match wordD ((k : Nat) : Int) m d with | some x => some (k, x) | none => firstW m (k + 1) ts) = _
    rw [hw]
    rfl
  | t :: ts, k, i + 1, h, l, hw => by
    have e : firstW m k (t :: ts) = (match wordD k m t with | some x => some (k, x) | none => firstW m (k + 1) ts) := rfl
    have h0 : wordD ((k + 0 : Nat) : Int) m t = none := firstW_none h 0 t rfl
    have h0 : wordD ((k : Nat) : Int) m t = none := h0
    rw [e, h0] at h
    show (match wordD ((k : Nat) : Int) m t with | some x => some (k, x) | none => firstW m (k + 1) (ts.set i d)) = _
    rw [h0]
    have := firstW_set (ts := ts) (k := k + 1) (i := i) h (by simpa using l) (by rw [show k + 1 + i = k + (i + 1) by omega]; exact hw)
    show firstW m (k + 1) (ts.set i d) = _
    rw [this, show k + 1 + i = k + (i + 1) by omega]
theorem firstW_set0 {m : Int} {d : D} {ts : List D} {i : Nat} (h : firstW m 0 ts = none) (l : i < ts.length) (hw : wordD ((i : Nat) : Int) m d = none) : firstW m 0 (ts.set i d) = none := firstW_all fun j t z => by
  rw [Nat.zero_add]
  by_cases c : i = j
  · subst c
    rw [List.getElem?_set_self l] at z
    cases z
    exact hw
  · rw [List.getElem?_set_ne c] at z
    have := firstW_none h j t z
    rwa [Nat.zero_add] at this
theorem fits_set {b n m : Nat} {ts : List D} {d : D} {i : Nat} (h : ∀ x ∈ ts, Fit b n m x) (g : Fit b n m d) : ∀ x ∈ ts.set i d, Fit b n m x := fun x hx => by
  rcases List.mem_or_eq_of_mem_set hx with hx | rfl
  · exact h x hx
  · exact g
theorem tup_set_fit {ts : List D} {d : D} {i : Nat} (t5 : ts.length ≤ 5) (ht : ∀ x ∈ ts, Fit 134 13000 8 x) (hd : Fit 134 13000 8 d) : Fit 134 65100 9 (.tup (ts.set i d)) := (fit_tup (L := 5) (fits_set ht hd) (by rw [List.length_set]; exact t5)).up
theorem due5_fit {ts : List D} {o w n d : D} (t5 : ts.length ≤ 5) (ht : ∀ x ∈ ts, Fit 134 13000 8 x) (hd : Fit 134 13000 8 d) (ho : Fit 134 65100 9 o) (hw : Fit 134 65100 9 w) (hn : Fit 134 300 6 n) : Fit 134 330000 10 (due5 ts o w n d) := by
  have fN : Fit 134 330000 10 (dueN n) := by
    have fb : Fit 0 20 0 (.str "none") := fit_of (by decide +kernel)
    exact (fit_lst (L := 4) (fits_cons (fb.up (b' := 134) (n' := 300) (m' := 6)) (fits_cons hn (fits_cons fit_bl.up (fits_cons fit_bl.up fits_nil)))) (by simp)).up
  cases n with
  | int i =>
    show Fit _ _ _ (if _ then _ else _)
    by_cases c : 0 ≤ i ∧ i < ts.length
    · rw [if_pos c]
      exact (due_fit (tup_set_fit t5 ht hd) ho hw (by decide) (by decide)).up
    · rw [if_neg c]; exact fN
  | _ => exact fN
section
variable {ts : List D} {o w d : D} {i : Int} (t1 : 1 ≤ ts.length) (t5 : ts.length ≤ 5) (fw : firstW ts.length 0 ts = none) (i0 : 0 ≤ i) (i1 : i < ts.length)
include t1 t5 fw i0 i1
theorem due5_word {y : Str} (h : wordD i ts.length d = some y) : due5 ts o w (.int i) d = dueE (.int i) (.str y) := by
  have ls : (ts.set i.toNat d).length = ts.length := List.length_set
  have e : ((i.toNat : Nat) : Int) = i := by omega
  have f := firstW_set (m := ts.length) (k := 0) fw (show i.toNat < ts.length by omega) (by rw [Nat.zero_add, e]; exact h)
  rw [Nat.zero_add] at f
  have p := planE_t (o := o) (w := w) (tasksE_w ⟨by rw [ls]; exact t1, by rw [ls]; exact t5⟩ (by rw [ls]; exact f))
  show (if _ then _ else _) = _
  rw [if_pos ⟨i0, i1⟩, p, e]
  rfl
theorem set_first (h : wordD i ts.length d = none) : firstW (ts.set i.toNat d).length 0 (ts.set i.toNat d) = none := by
  rw [List.length_set]
  exact firstW_set0 fw (by omega) (by rw [show ((i.toNat : Nat) : Int) = i by omega]; exact h)
theorem due5_ring (h : wordD i ts.length d = none) (r : Ring (ts.set i.toNat d)) : due5 ts o w (.int i) d = dueE .non (.str "ring") := by
  have ls : (ts.set i.toNat d).length = ts.length := List.length_set
  have p := planE_t (o := o) (w := w) (tasksE_r ⟨by rw [ls]; exact t1, by rw [ls]; exact t5⟩ (set_first t1 t5 fw i0 i1 h) r)
  show (if _ then _ else _) = _
  rw [if_pos ⟨i0, i1⟩, p]
  rfl
theorem due5_ok (ho : okOrd ts.length o = true) (hw : okWk w = true) (h : wordD i ts.length d = none) (r : ¬ Ring (ts.set i.toNat d)) : due5 ts o w (.int i) d = .lst [.tup (ts.set i.toNat d), o, w] := by
  have ls : (ts.set i.toNat d).length = ts.length := List.length_set
  have p := planE_n (o := o) (w := w) (tasksE_n ⟨by rw [ls]; exact t1, by rw [ls]; exact t5⟩ (set_first t1 t5 fw i0 i1 h) r) (by rw [ls]; exact ho) hw
  show (if _ then _ else _) = _
  rw [if_pos ⟨i0, i1⟩, p]
  rfl
end
abbrev n__law_fresh_task : List Str := ["_law_deck_here", "_law_number", "_law_many", "_law_much", "_law_found", "_law_one_here"]
abbrev t__law_fresh_task : DTS := (dSeq (dSet 3 (dCallB 0 1 fTake (dCons (dC (.int 6)) dNil)))
  (dSeq (dSetLc 4 (dLc (diRg1 (dCons (dRel (dVar 2)) dNil)) (dName 5) (dAnd (dTst (dOp oLt (dDat (dCallB 0 1 fTake (dCons (dC (.int 6)) dNil))) (dVar 3))) (dTst (dOp oNe (dVar 5) (dVar 1)))) (dRel (dVar 5)) [5]))
  (dRet (dOp oAdd (dDat (dTup (dCons (dRel (dUn oTuple (dVar 4))) dNil))) (dDat (dCallB 0 0 fSpan dNil))))))
theorem rd__law_fresh_task : ∀ b ds kk xx, ds.length = 2 → fFresh ds kk xx → t__law_fresh_task (bEnds b kk) (envB b n__law_fresh_task ds) := by
  unfold t__law_fresh_task n__law_fresh_task
  rintro b ds kk xx hl h
  match ds, hl, h with
  | [.int i, .int m], _, ⟨⟨i0, i1, m5⟩, h⟩ =>
    refine seq_d fun N hN => ?_
    simp_wf
    refine ⟨take_ok (by decide) (by decide), fun mu v0 v1 => hN _ (seq_d fun N2 hN2 => ?_)⟩
    simp_wf
    simp only [dLc_eq]
    simp_wf
    refine ⟨by omega, by omega, rfl, by unfold rgD; rw [List.length_map, List.length_range]; omega, fun j acc => ∃ ns : List Int, acc = ns.map D.int ∧ ns.length ≤ j ∧ ns.Pairwise (· < ·) ∧ ∀ x ∈ ns, 0 ≤ x ∧ x < m ∧ x < j ∧ x ≠ i, ⟨[], rfl, by simp, .nil, fun x h => by cases h⟩, ?_, ?_⟩
    · rintro j d acc hd lacc ⟨ns, rfl, ln, pw, hns⟩
      obtain ⟨jl, rfl⟩ := rgD_get hd
      simp_wf
      refine ⟨take_ok (by decide) (by decide), fun u v0 v1 => ?_⟩
      simp_wf
      have no : ∃ ns' : List Int, ns.map D.int = ns'.map D.int ∧ ns'.length ≤ j + 1 ∧ ns'.Pairwise (· < ·) ∧ ∀ x ∈ ns', 0 ≤ x ∧ x < m ∧ x < ((j + 1 : Nat) : Int) ∧ ¬ x = i := ⟨ns, rfl, by omega, pw, fun x hx => by have := hns x hx; omega⟩
      by_cases c1 : u < mu
      · rw [if_pos c1]
        by_cases c2 : (0 : Int) + (j : Nat) = i
        · rw [if_neg (fun z => z c2)]; exact no
        · rw [if_pos c2]
          refine ⟨ns ++ [0 + ((j : Nat) : Int)], by simp, by simp; omega, List.pairwise_append.mpr ⟨pw, List.pairwise_singleton _ _, fun a ha b hb => ?_⟩, fun x hx => ?_⟩
          · rw [List.mem_singleton.mp hb]
            have := hns a ha
            omega
          · rcases List.mem_append.mp hx with hx | hx
            · have := hns x hx; omega
            · rw [List.mem_singleton.mp hx]; omega
      · rw [if_neg c1]; exact no
    · rintro acc lacc ⟨ns, rfl, ln, pw, hns⟩
      simp_wf
      refine hN2 _ ?_
      simp_wf
      intro p q sp
      simp_wf
      have l5 : ns.length ≤ 5 := by
        have e : (rgD 0 m.toNat).length = m.toNat := by unfold rgD; rw [List.length_map, List.length_range]
        omega
      exact h _ (word_right pw (fun x hx => by have := hns x hx; omega) (fun z => (hns i z).2.2.2 rfl) sp) (task_fit (fun x hx => by have := hns x hx; omega) l5 sp)
abbrev n__law_due_k05 : List Str := ["_law_tasks_here", "_law_order", "_law_workers", "_law_number", "_law_task", "_law_word"]
abbrev t__law_due_k05 : DTS := (dSeq (dIf (dNot (dTst (dDat (dCall 2 fIsNum (fun _ => False) (dCons (dRel (dVar 3)) (dCons (dRel (dUn oLen (dVar 0))) dNil)))))) (dRet (dLst (dCons (dC (.str "none")) (dCons (dRel (dVar 3)) (dCons (dC (.bl true)) (dCons (dC (.bl false)) dNil)))))) dNext)
  (dSeq (dSet 5 (dCall 3 fWordL (fun _ => False) (dCons (dRel (dVar 4)) (dCons (dRel (dVar 3)) (dCons (dRel (dUn oLen (dVar 0))) dNil)))))
  (dSeq (dIf (dTst (dOp oNe (dVar 5) (dDat (dC (.str ""))))) (dRet (dLst (dCons (dC (.str "bad")) (dCons (dRel (dVar 3)) (dCons (dRel (dVar 5)) (dCons (dC (.bl true)) (dCons (dC (.bl false)) dNil))))))) dNext)
  (dSeq (dIf (dTst (dDat (dCall 1 fRing (fun _ => False) (dCons (dCall 3 fWith (fun _ => False) (dCons (dRel (dVar 0)) (dCons (dRel (dVar 3)) (dCons (dRel (dVar 4)) dNil)))) dNil)))) (dRet (dNew [(.str "bad"), .non, (.str "ring"), (.bl true), (.bl false)])) dNext)
  (dRet (dLst (dCons (dCall 3 fWith (fun _ => False) (dCons (dRel (dVar 0)) (dCons (dRel (dVar 3)) (dCons (dRel (dVar 4)) dNil)))) (dCons (dRel (dVar 1)) (dCons (dRel (dVar 2)) dNil)))))))))
theorem rd__law_due_k05 : ∀ ds kk xx, ds.length = 5 → fDue5 ds kk xx → t__law_due_k05 (dEnds kk) (env0 n__law_due_k05 ds) := by
  unfold t__law_due_k05 n__law_due_k05
  rintro ds kk xx hl h
  match ds, hl, h with
  | [.tup ts, o, w, n, d], _, ⟨⟨t1, t5, hn, sd⟩, ⟨fw, ho, hw⟩, hk⟩ =>
    refine seq_d fun N hN => if_d fun T U hT hU => ?_
    simp only [env0_5]
    simp_wf
    refine ⟨hn, ?_⟩
    cases c : isNum ts.length n with
    | false =>
      simp_wf
      refine hT _ ?_
      simp_wf
      have e : due5 ts o w n d = dueN n := by
        cases n with
        | int i =>
          show (if _ then _ else _) = _
          rw [if_neg (isNum_no c)]
        | _ => rfl
      rw [e] at hk
      exact hk
    | true =>
      obtain ⟨i, e, i0, i1⟩ := isNum_int c
      subst e
      simp_wf
      refine hU _ (hN _ (seq_d fun N2 hN2 => ?_))
      simp_wf
      refine ⟨sd, hN2 _ (seq_d fun N3 hN3 => if_d fun T2 U2 hT2 hU2 => ?_)⟩
      simp_wf
      cases ew : wordD i ts.length d with
      | some y =>
        obtain ⟨w1, w2⟩ := word_ok ew
        refine ⟨eqOk_str w1, eqOk_str (by decide +kernel), ?_⟩
        rw [Option.getD_some, if_pos w2]
        refine hT2 _ ?_
        simp_wf
        rw [due5_word t1 t5 fw i0 i1 ew] at hk
        exact hk
      | none =>
        refine ⟨eqOk_str (by decide +kernel), eqOk_str (by decide +kernel), ?_⟩
        rw [Option.getD_none, if_neg (fun z => z rfl)]
        refine hU2 _ (hN3 _ (seq_d fun N4 hN4 => if_d fun T3 U3 hT3 hU3 => ?_))
        have ls : (ts.set i.toNat d).length = ts.length := List.length_set
        have g := gr_of (ts := ts.set i.toNat d) (by rw [ls]; exact t5) (set_first t1 t5 fw i0 i1 ew)
        simp_wf
        refine ⟨⟨t5, i0, i1⟩, g, ?_⟩
        by_cases r : Ring (ts.set i.toNat d)
        · rw [due5_ring t1 t5 fw i0 i1 ew r] at hk
          rw [@decide_eq_true _ (Classical.propDecidable _) r]
          simp_wf
          refine hT3 _ ?_
          simp_wf
          exact hk
        · rw [due5_ok t1 t5 fw i0 i1 ho hw ew r] at hk
          rw [@decide_eq_false _ (Classical.propDecidable _) r]
          simp_wf
          refine hU3 _ (hN4 _ ?_)
          simp_wf
          exact ⟨⟨t5, i0, i1⟩, hk⟩
abbrev n_law_k05 : List Str := ["_law_script", "_law_deck_here", "_law_turn", "_law_tasks_here", "_law_order", "_law_workers", "_law_plan", "_law_k", "_law_number", "_law_place", "_law_task", "_law_due_here", "_law_found"]
abbrev t_law_k05 (C_Plan : Addr) (C_BadPlan : Addr) (C_NoTask : Addr) : DTS := (dSeq (dDeck 1 0)
  (dSeq (dFor (diRg1 (dCons (dC (.int 4)) dNil)) (dName 2) (dSeq (dAsg (dCallB 1 0 fParts dNil) (dgLst 3 (dgCons (dName 3) (dgCons (dName 4) (dgCons (dName 5) dgNil)))))
  (dSeq (dSet 6 (dCall 3 (fPlan C_Plan C_BadPlan) (fun _ => False) (dCons (dRel (dVar 3)) (dCons (dRel (dVar 4)) (dCons (dRel (dVar 5)) dNil)))))
  (dFor (diRg1 (dCons (dC (.int 4)) dNil)) (dName 7) (dSeq (dPar2 8 9 (dDat (dCallB 1 1 fOddN (dCons (dRel (dUn oLen (dVar 3))) dNil))) (dDat (dCallB 1 1 fTake (dCons (dRel (dUn oLen (dVar 3))) dNil))))
  (dSeq (dIf (dTst (dDat (dCall 2 fIsNum (fun _ => False) (dCons (dRel (dVar 8)) (dCons (dRel (dUn oLen (dVar 3))) dNil))))) (dSet 9 (dRel (dVar 8))) dNext)
  (dSeq (dSet 10 (dCallB 1 2 fFresh (dCons (dRel (dVar 9)) (dCons (dRel (dUn oLen (dVar 3))) dNil))))
  (dSeq (dIf (dTst (dOp oEq (dDat (dCallB 1 1 fTake (dCons (dC (.int 2)) dNil))) (dDat (dC (.int 0))))) (dSet 10 (dCallB 1 3 fSpTask (dCons (dCallB 1 1 fOne (dCons (dRel (dLst (dCons (dRel (dVar 10)) (dCons (dRel (dOp oIx (dVar 3) (dVar 9))) dNil)))) dNil)) (dCons (dRel (dVar 9)) (dCons (dRel (dUn oLen (dVar 3))) dNil))))) dNext)
  (dSeq (dSet 11 (dCall 5 fDue5 (fun _ => False) (dCons (dRel (dVar 3)) (dCons (dRel (dVar 4)) (dCons (dRel (dVar 5)) (dCons (dRel (dVar 8)) (dCons (dRel (dVar 10)) dNil)))))))
  (dSeq (dSet 12 (dRel (dLst (dCons (dCall 3 (fMade5 C_Plan) (fun _ => False) (dCons (dRel (dVar 6)) (dCons (dRel (dVar 8)) (dCons (dRel (dVar 10)) dNil)))) (dCons (dCall 3 (fMade5 C_Plan) (fun _ => False) (dCons (dRel (dVar 6)) (dCons (dRel (dVar 8)) (dCons (dRel (dVar 10)) dNil)))) dNil)))))
  (dSeq (dIf (dTst (dOp (oStrs true) (dUn oRepr (dVar 12)) (dUn oRepr (dLst (dCons (dRel (dVar 11)) (dCons (dRel (dVar 11)) dNil)))))) (dRet (dDat (dC (.bl false)))) dNext)
  (dIf (dTst (dOp (oStrs true) (dUn oRepr (dDat (dCall 1 (fTold C_Plan) (fun _ => False) (dCons (dRel (dVar 6)) dNil)))) (dUn oRepr (dLst (dCons (dRel (dVar 3)) (dCons (dRel (dVar 4)) (dCons (dRel (dVar 5)) dNil))))))) (dRet (dDat (dC (.bl false)))) dNext))))))))))))
  (dRet (dDat (dC (.bl true))))))
theorem rd_law_k05 {C_Plan : Addr} {C_BadPlan : Addr} {C_NoTask : Addr} : ∀ ns : List Int, ns.length ≤ 63 → t_law_k05 C_Plan C_BadPlan C_NoTask lEnds (env0 n_law_k05 [.lst (ns.map D.int)]) := by
  unfold t_law_k05 n_law_k05
  intro ns l63
  refine seq_d fun N hN => ?_
  simp_wf
  refine ⟨⟨ns, rfl, l63⟩, fun b => hN _ (seq_d fun N2 hN2 => ?_)⟩
  simp only [dFor_eq]
  simp_wf
  refine ⟨by decide, by decide, for_in (fun i e => ∃ x2 x3 x4 x5 x6 x7 x8 x9 x10 x11 x12, e = [.dat (.lst (ns.map D.int)), .bag b, x2, x3, x4, x5, x6, x7, x8, x9, x10, x11, x12]) ⟨_, _, _, _, _, _, _, _, _, _, _, rfl⟩ ?_ ?_⟩
  · rintro i d e hd ⟨x2, x3, x4, x5, x6, x7, x8, x9, x10, x11, x12, rfl⟩ N3 hN3
    simp_wf
    refine seq_d fun N4 hN4 => ?_
    simp_wf
    intro m ts o w m1 m5 hts ho w1 w3
    simp_wf
    refine hN4 _ (seq_d fun N5 hN5 => ?_)
    have lt : ts.length = m := hts.1
    obtain ⟨line, pm, hall⟩ := hts.2
    have fts : ∀ d ∈ ts, Fit 134 13000 8 d := fun d hd => by
      obtain ⟨j, hj⟩ := List.getElem?_of_mem hd
      exact ((hall j d hj).fit pm m5).up
    have ft : Fit 134 65100 9 (.tup ts) := (fit_tup (L := 5) fts (by omega)).up
    have fo := (ho.fit m5).up (b' := 134) (n' := 65100) (m' := 9)
    have fw : Fit 134 65100 9 (.int w) := (fit_int (b := 10) (by have k10 : (2 : Nat) ^ 10 = 1024 := rfl; omega)).up
    have fl : Fit 134 400000 11 (.lst [.tup ts, o, .int w]) := (fit_lst (L := 3) (fits_cons ft (fits_cons fo (fits_cons fw fits_nil))) (by simp)).up
    have pe := plan_ok m1 m5 hts ho w1 w3
    simp_wf
    refine ⟨⟨ft.small, fo.small, fw.small⟩, fun _ => hN5 _ ?_, fun n y z => by rw [pe] at z; cases z⟩
    simp only [dFor_eq]
    simp_wf
    refine ⟨by decide, by decide, for_in (fun i e => ∃ x7 x8 x9 x10 x11 x12, e = [.dat (.lst (ns.map D.int)), .bag b, .dat d, .dat (.tup ts), .dat o, .dat (.int w), .dat (.obj C_Plan pNs [.tup ts, o, .int w]), x7, x8, x9, x10, x11, x12]) ⟨_, _, _, _, _, _, rfl⟩ ?_ ?_⟩
    · rintro i2 d2 e hd2 ⟨x7, x8, x9, x10, x11, x12, rfl⟩ N6 hN6
      simp_wf
      refine seq_d fun N7 hN7 => ?_
      simp_wf
      refine ⟨⟨by omega, by omega⟩, fun n fn => ?_⟩
      simp_wf
      refine ⟨take_ok (by omega) (by omega), fun u u0 u1 => hN7 _ (seq_d fun N8 hN8 => ?_)⟩
      have rest : ∀ p : Int, 0 ≤ p → p < ts.length → N8 [.dat (.lst (ns.map D.int)), .bag b, .dat d, .dat (.tup ts), .dat o, .dat (.int w), .dat (.obj C_Plan pNs [.tup ts, o, .int w]), .dat d2, .dat n, .dat (.int p), x10, x11, x12] := fun p p0 p1 => by
        refine hN8 _ (seq_d fun N9 hN9 => ?_)
        simp_wf
        refine ⟨⟨p0, p1, by omega⟩, fun d3 w3' f3 => hN9 _ (seq_d fun N10 hN10 => ?_)⟩
        have fin : ∀ d4, Fit 134 13000 8 d4 → N10 [.dat (.lst (ns.map D.int)), .bag b, .dat d, .dat (.tup ts), .dat o, .dat (.int w), .dat (.obj C_Plan pNs [.tup ts, o, .int w]), .dat d2, .dat n, .dat (.int p), .dat d4, x11, x12] := fun d4 f4 => by
          have fd := due5_fit (n := n) (by omega) fts f4 fo fw (fn.up (b' := 134) (n' := 300) (m' := 6))
          refine hN10 _ (seq_d fun N11 hN11 => ?_)
          simp_wf
          refine ⟨⟨by omega, by omega, small_no fn.small, f4.small⟩, ⟨hts.first, by rw [lt]; exact ho.ok, wk_ok w1 w3⟩, hN11 _ (seq_d fun N12 hN12 => ?_)⟩
          have sm : ∀ i : Int, n = .int i → 0 ≤ i → i < ts.length → (D.tup (ts.set i.toNat d4)).small = true := fun i _ _ _ => (tup_set_fit (by omega) fts f4).small
          simp_wf
          refine ⟨⟨rfl, rfl, by omega, small_no fn.small, fo.small, fw.small⟩, sm, ⟨rfl, rfl, by omega, small_no fn.small, fo.small, fw.small⟩, sm, ?_⟩
          generalize due5 ts o (.int w) n d4 = q at fd ⊢
          have f2 : Fit 134 700000 12 (.lst [q, q]) := (fit_lst (L := 2) (fits_cons fd (fits_cons fd fits_nil)) (by simp)).up
          refine hN12 _ (seq_d fun N13 hN13 => if_d fun T U hT hU => ?_)
          simp_wf
          refine ⟨f2.r, f2.r, ?_⟩
          rw [if_neg (fun z => z trivial)]
          refine hU _ (hN13 _ (if_d fun T U hT hU => ?_))
          simp_wf
          refine ⟨⟨rfl, rfl⟩, fl.r, fl.r, ?_⟩
          rw [if_neg (fun z => z rfl)]
          exact hU _ (hN6 _ ⟨_, _, _, _, _, _, rfl⟩)
        refine if_d fun T U hT hU => ?_
        simp_wf
        refine ⟨take_ok (by decide) (by decide), fun v v0 v1 => ?_⟩
        simp_wf
        by_cases c0 : v = 0
        · rw [if_pos c0]
          refine hT _ ?_
          have lk : p.toNat < ts.length := by omega
          have ea : L2.atI ts p = some ts[p.toNat] := by
            unfold L2.atI ixN
            rw [if_pos p0, if_pos p1]
            exact List.getElem?_eq_getElem lk
          simp_wf
          rw [ea]
          dsimp only
          have eu : ((p.toNat : Nat) : Int) = p := by omega
          refine ⟨⟨by simp, by simp⟩, fun d0 hd0 => ⟨130, ⟨by decide, by decide⟩, ⟨p0, p1, by omega⟩, ?_, fun e fe => fin e fe⟩⟩
          rw [Int.toNat_natCast]
          rcases List.mem_cons.mp hd0 with e0 | hd0
          · subst e0
            exact right_of (by rw [eu]; exact w3') f3.sm (by omega)
          · rw [List.mem_singleton.mp hd0]
            have hp := hall p.toNat ts[p.toNat] (List.getElem?_eq_getElem lk)
            exact right_of (by rw [lt]; exact hp.word pm) (hp.fit pm m5).sm (by omega)
        · rw [if_neg c0]
          refine hU _ ?_
          simp_wf
          exact fin d3 f3.up
      refine if_d fun T U hT hU => ?_
      simp_wf
      refine ⟨small_no fn.small, ?_⟩
      cases c : isNum ts.length n with
      | true =>
        obtain ⟨p, e, p0, p1⟩ := isNum_int c
        subst e
        simp_wf
        refine hT _ ?_
        simp_wf
        exact rest p p0 p1
      | false =>
        simp_wf
        refine hU _ ?_
        simp_wf
        exact rest u u0 u1
    · rintro e ⟨x7, x8, x9, x10, x11, x12, rfl⟩
      exact hN3 _ ⟨_, _, _, _, _, _, _, _, _, _, _, rfl⟩
  · rintro e ⟨x2, x3, x4, x5, x6, x7, x8, x9, x10, x11, x12, rfl⟩
    refine hN2 _ ?_
    simp_wf
end KK
namespace KK
open PySem PySem.Spec PyProof.Rows L2 LL DL K01
/-! ### with_order, with_workers -/
def fWO (C CB : Addr) : DF := fun ds k x => match ds with
  | [.obj C' ns [t, _, w], o] => (C' = C ∧ ns = pNs) ∧ fPlan C CB [t, o, w] k x
  | _ => False
def fWW (C CB : Addr) : DF := fun ds k x => match ds with
  | [.obj C' ns [t, o, _], w] => (C' = C ∧ ns = pNs) ∧ fPlan C CB [t, o, w] k x
  | _ => False
noncomputable def fOrdd (C : Addr) : DF := fun ds k _ => match ds with
  | [.obj C' ns [t, _, w], o] => (C' = C ∧ ns = pNs) ∧ (t.small = true ∧ o.small = true ∧ w.small = true) ∧ k (dueP t o w (planE t o w))
  | _ => False
noncomputable def fMann (C : Addr) : DF := fun ds k _ => match ds with
  | [.obj C' ns [t, o, _], w] => (C' = C ∧ ns = pNs) ∧ (t.small = true ∧ o.small = true ∧ w.small = true) ∧ k (dueP t o w (planE t o w))
  | _ => False
def fOrders : DF := fun ds k _ => match ds with
  | [.tup os] => ∃ ns : List Int, os = ns.map D.int ∧ (1 ≤ ns.length ∧ ns.length ≤ 5) ∧ (∀ x ∈ ns, 0 ≤ x ∧ x < 5) ∧ ∀ ds, ds.length ≤ 30 → (∀ d ∈ ds, Fit 140 20000 6 d) → k (.lst ds)
  | _ => False
abbrev n_Plan_with_order : List Str := ["self", "order"]
abbrev t_Plan_with_order (C_BadPlan : Addr) (C_Plan : Addr) (xx : Er → Prop) : DTS := (dRet (dDat (dCall 3 (fPlan C_Plan C_BadPlan) xx (dCons (dFld C_Plan "held_tasks" (dRel (dVar 0))) (dCons (dRel (dVar 1)) (dCons (dFld C_Plan "held_workers" (dRel (dVar 0))) dNil))))))
theorem rd_Plan_with_order {C_BadPlan : Addr} {C_Plan : Addr} : ∀ xx ds kk, ds.length = 2 → (fWO C_Plan C_BadPlan) ds kk xx → t_Plan_with_order C_BadPlan C_Plan xx (dEnds kk) (env0 n_Plan_with_order ds) := by
  unfold t_Plan_with_order n_Plan_with_order
  intro xx
  rintro ds kk hl h
  match ds, hl, h with
  | [.obj C' ns [t, o, w], d], _, ⟨⟨e1, e2⟩, h⟩ =>
    subst e1 e2
    simp_wf
    show fPlan C' C_BadPlan [t, d, w] (fun d => kk d) xx
    exact h
abbrev n_Plan_with_workers : List Str := ["self", "workers"]
abbrev t_Plan_with_workers (C_BadPlan : Addr) (C_Plan : Addr) (xx : Er → Prop) : DTS := (dRet (dDat (dCall 3 (fPlan C_Plan C_BadPlan) xx (dCons (dFld C_Plan "held_tasks" (dRel (dVar 0))) (dCons (dFld C_Plan "held_order" (dRel (dVar 0))) (dCons (dRel (dVar 1)) dNil))))))
theorem rd_Plan_with_workers {C_BadPlan : Addr} {C_Plan : Addr} : ∀ xx ds kk, ds.length = 2 → (fWW C_Plan C_BadPlan) ds kk xx → t_Plan_with_workers C_BadPlan C_Plan xx (dEnds kk) (env0 n_Plan_with_workers ds) := by
  unfold t_Plan_with_workers n_Plan_with_workers
  intro xx
  rintro ds kk hl h
  match ds, hl, h with
  | [.obj C' ns [t, o, w], d], _, ⟨⟨e1, e2⟩, h⟩ =>
    subst e1 e2
    simp_wf
    show fPlan C' C_BadPlan [t, o, d] (fun d => kk d) xx
    exact h
abbrev n__law_ordered : List Str := ["_law_plan", "_law_order", "_law_found", "_law_error"]
abbrev t__law_ordered (C_Plan : Addr) (C_BadPlan : Addr) : DTS := (dSeq (dSet 2 (dC .non))
  (dSeq (dTry (fun xr => (dSet 2 (dCall 1 (fTold C_Plan) (fun _ => False) (dCons (dMethT C_Plan "with_order" 1 (fWO C_Plan C_BadPlan) xr (dRel (dVar 0)) (dCons (dRel (dVar 1)) dNil)) dNil)))) (⟨[(C_BadPlan, true)], some 3, fun C a dd => (dSet 2 (dCallE 3 a dd eTold))⟩ :: []))
  (dRet (dVar 2))))
theorem rd__law_ordered {C_Plan : Addr} {C_BadPlan : Addr} : ∀ ds kk xx, ds.length = 2 → (fOrdd C_Plan) ds kk xx → t__law_ordered C_Plan C_BadPlan (dEnds kk) (env0 n__law_ordered ds) := by
  unfold t__law_ordered n__law_ordered
  rintro ds kk xx hl h
  match ds, hl, h with
  | [.obj C' ns [t, o, w], d], _, ⟨⟨e1, e2⟩, ⟨st, so, sw⟩, hk⟩ =>
    subst e1 e2
    refine seq_d fun N hN => ?_
    simp_wf
    refine hN _ (seq_d fun N2 hN2 => ?_)
    simp_wf
    refine ⟨by decide +kernel, ⟨rfl, rfl⟩, ⟨st, so, sw⟩, fun z => ?_, fun n y z => ⟨true, List.mem_cons_self, fun _ a dd => ?_, fun z => nomatch z⟩⟩
    · rw [z] at hk
      refine ⟨⟨rfl, rfl⟩, hN2 _ ?_⟩
      simp_wf
      exact hk
    · rw [z] at hk
      simp only [Hn.ends, Hn.env, bad]
      simp_wf
      refine ⟨rfl, hN2 _ ?_⟩
      simp_wf
      exact hk
abbrev n__law_manned : List Str := ["_law_plan", "_law_workers", "_law_found", "_law_error"]
abbrev t__law_manned (C_Plan : Addr) (C_BadPlan : Addr) : DTS := (dSeq (dSet 2 (dC .non))
  (dSeq (dTry (fun xr => (dSet 2 (dCall 1 (fTold C_Plan) (fun _ => False) (dCons (dMethT C_Plan "with_workers" 1 (fWW C_Plan C_BadPlan) xr (dRel (dVar 0)) (dCons (dRel (dVar 1)) dNil)) dNil)))) (⟨[(C_BadPlan, true)], some 3, fun C a dd => (dSet 2 (dCallE 3 a dd eTold))⟩ :: []))
  (dRet (dVar 2))))
theorem rd__law_manned {C_Plan : Addr} {C_BadPlan : Addr} : ∀ ds kk xx, ds.length = 2 → (fMann C_Plan) ds kk xx → t__law_manned C_Plan C_BadPlan (dEnds kk) (env0 n__law_manned ds) := by
  unfold t__law_manned n__law_manned
  rintro ds kk xx hl h
  match ds, hl, h with
  | [.obj C' ns [t, o, w], d], _, ⟨⟨e1, e2⟩, ⟨st, so, sw⟩, hk⟩ =>
    subst e1 e2
    refine seq_d fun N hN => ?_
    simp_wf
    refine hN _ (seq_d fun N2 hN2 => ?_)
    simp_wf
    refine ⟨by decide +kernel, ⟨rfl, rfl⟩, ⟨st, so, sw⟩, fun z => ?_, fun n y z => ⟨true, List.mem_cons_self, fun _ a dd => ?_, fun z => nomatch z⟩⟩
    · rw [z] at hk
      refine ⟨⟨rfl, rfl⟩, hN2 _ ?_⟩
      simp_wf
      exact hk
    · rw [z] at hk
      simp only [Hn.ends, Hn.env, bad]
      simp_wf
      refine ⟨rfl, hN2 _ ?_⟩
      simp_wf
      exact hk
abbrev n__law_orders : List Str := ["_law_deck_here", "_law_order", "_law_many", "_law_some", "_law_one_here"]
abbrev t__law_orders : DTS := (dSeq (dSet 2 (dRel (dUn oLen (dVar 1))))
  (dSeq (dSet 3 (dRel (dLst (dCons (dRel (dVar 1)) (dCons (dRel (dUn oTuple (dDat (dCallB 0 1 fMixed (dCons (dRel (dVar 1)) dNil))))) (dCons (dRel (dUn oTuple (dDat (dCallB 0 1 fMixed (dCons (dRel (dVar 1)) dNil))))) (dCons (dRel (dUn oRev (dVar 1))) (dCons (dRel (dUn oList (dVar 1))) dNil))))))))
  (dSeq (dSet 3 (dRel (dOp oCatS (dVar 3) (dLst (dCons (dRel (dSl (dVar 1) (doSome (dC (.int 1))) doNone)) (dCons (dRel (dOp oAdd (dVar 1) (dSl (dVar 1) doNone (doSome (dC (.int 1)))))) (dCons (dRel (dOp oAdd (dSl (dVar 1) doNone (doSome (dRel (dUn oNeg (dDat (dC (.int 1))))))) (dSl (dVar 1) doNone (doSome (dC (.int 1)))))) (dCons (dRel (dOp oAdd (dSl (dVar 1) doNone (doSome (dRel (dUn oNeg (dDat (dC (.int 1))))))) (dDat (dTup (dCons (dRel (dVar 2)) dNil))))) (dCons (dRel (dOp oRepW (dDat (dC (.tup [.non]))) (dVar 2))) dNil)))))))))
  (dSeq (dSet 3 (dRel (dOp oCatS (dVar 3) (dLst (dCons (dRel (dOp oAdd (dSl (dVar 1) doNone (doSome (dRel (dUn oNeg (dDat (dC (.int 1))))))) (dDat (dC (.tup [(.bl true)]))))) (dCons (dRel (dOp oAdd (dSl (dVar 1) doNone (doSome (dRel (dUn oNeg (dDat (dC (.int 1))))))) (dDat (dC (.tup [(.int (-1))]))))) (dCons (dTup (dCons (dRel (dVar 1)) dNil)) (dCons (dCallB 0 0 fOdd dNil) (dCons (dC (.dct [] [])) (dCons (dC (.str "0")) (dCons (dC (.int 0)) dNil)))))))))))
  (dRet (dOp oCatS (dVar 3) (dLst (dCons (dRel (dUn oTuple (dLc (diSeq (dVar 1)) (dName 4) dYes (dRel (dUn oStr (dVar 4))) [4]))) dNil))))))))
theorem rd__law_orders : ∀ b ds kk xx, ds.length = 1 → fOrders ds kk xx → t__law_orders (bEnds b kk) (envB b n__law_orders ds) := by
  unfold t__law_orders n__law_orders
  rintro b ds kk xx hl h
  match ds, hl, h with
  | [.tup os], _, ⟨ns, e, ⟨l1, l5⟩, hv, h⟩ =>
    subst e
    refine seq_d fun N hN => ?_
    simp_wf
    refine hN _ (seq_d fun N2 hN2 => ?_)
    simp_wf
    refine ⟨ns, rfl, by omega, fun m1 p1 => ?_⟩
    simp_wf
    refine ⟨ns, rfl, by omega, fun m2 p2 => ?_⟩
    simp_wf
    refine hN2 _ (seq_d fun N3 hN3 => ?_)
    simp_wf
    simp only [oRepW]
    simp_wf
    have lc1 := cut_len (ds := ns.map D.int) (lo := some 1) (hi := none)
    have lc2 := cut_len (ds := ns.map D.int) (lo := none) (hi := some 1)
    have lc3 := cut_len (ds := ns.map D.int) (lo := none) (hi := some (-1))
    have lm : (ns.map D.int).length ≤ 5 := by simpa using l5
    have lm1 : 1 ≤ (ns.map D.int).length := by simpa using l1
    refine ⟨by omega, by omega, by omega, ⟨by rw [List.length_map]; omega, by rw [List.length_map]; omega⟩, hN3 _ (seq_d fun N4 hN4 => ?_)⟩
    simp_wf
    have fi := ints_fit (ns := ns) fun x hx => by have := hv x hx; omega
    have tup : ∀ {L : List D}, (∀ d ∈ L, Fit 10 250 0 d) → L.length ≤ 20 → Fit 140 20000 6 (.tup L) := fun hL ll => (fit_tup (L := 20) hL ll).up
    have ft : Fit 10 1300 1 (.tup (ns.map D.int)) := (fit_tup (L := 5) fi lm).up
    have app1 : ∀ d, Fit 10 250 0 d → Fit 140 20000 6 (.tup (DL.cutD (ns.map D.int) none (some (-1)) ++ [d])) := fun d fd => tup (fits_app (fits_cut fi) (fits_cons fd fits_nil)) (by rw [List.length_append, List.length_singleton]; omega)
    have mix : ∀ ms : List Int, ms.Perm ns → Fit 140 20000 6 (.tup (ms.map D.int)) := fun ms p => tup (ints_fit fun x hx => by have := hv x (p.subset hx); omega) (by rw [List.length_map, p.length_eq]; omega)
    have rep : Fit 140 20000 6 (.tup (List.replicate (((ns.map D.int).length : Nat) : Int).toNat [D.non]).flatten) := by
      refine tup (fun d hd => ?_) ?_
      · obtain ⟨l, hl, hd⟩ := List.mem_flatten.mp hd
        rw [(List.mem_replicate.mp hl).2] at hd
        rw [List.mem_singleton.mp hd]
        exact fit_non.up
      · rw [PyProof.Rows.lm_len_rep_flat, Int.toNat_natCast]
        simp
        omega
    refine ⟨by omega, by omega, fun d fd => ⟨by simp, hN4 _ ?_⟩⟩
    have fS : ∀ e ∈ ([D.tup (ns.map D.int), D.tup (m1.map D.int), D.tup (m2.map D.int), D.tup (ns.map D.int).reverse, D.lst (ns.map D.int)] ++ [D.tup (DL.cutD (ns.map D.int) (some 1) none), D.tup (ns.map D.int ++ DL.cutD (ns.map D.int) none (some 1)), D.tup (DL.cutD (ns.map D.int) none (some (-1)) ++ DL.cutD (ns.map D.int) none (some 1)), D.tup (DL.cutD (ns.map D.int) none (some (-1)) ++ [D.int (((ns.map D.int).length : Nat) : Int)]), D.tup (List.replicate (((ns.map D.int).length : Nat) : Int).toNat [D.non]).flatten] ++ [D.tup (DL.cutD (ns.map D.int) none (some (-1)) ++ [D.bl true]), D.tup (DL.cutD (ns.map D.int) none (some (-1)) ++ [D.int (-1)]), D.tup [D.tup (ns.map D.int)], d, D.dct [] [], D.str "0", D.int 0]), Fit 140 20000 6 e :=
      fits_app (fits_app (fits_cons ft.up (fits_cons (mix _ p1) (fits_cons (mix _ p2) (fits_cons (tup (fits_rev fi) (by rw [List.length_reverse]; omega)) (fits_cons (fit_lst (L := 5) fi lm).up fits_nil)))))
        (fits_cons (tup (fits_cut fi) (by omega)) (fits_cons (tup (fits_app fi (fits_cut fi)) (by rw [List.length_append]; omega)) (fits_cons (tup (fits_app (fits_cut fi) (fits_cut fi)) (by rw [List.length_append]; omega)) (fits_cons (app1 _ (small_fit (by omega) (by omega))) (fits_cons rep fits_nil))))))
        (fits_cons (app1 _ fit_bl.up) (fits_cons (app1 _ (small_fit (by omega) (by omega))) (fits_cons (fit_tup (L := 1) (fits_cons ft fits_nil) (by simp)).up (fits_cons fd.up (fits_of (by decide +kernel))))))
    have lS : ([D.tup (ns.map D.int), D.tup (m1.map D.int), D.tup (m2.map D.int), D.tup (ns.map D.int).reverse, D.lst (ns.map D.int)] ++ [D.tup (DL.cutD (ns.map D.int) (some 1) none), D.tup (ns.map D.int ++ DL.cutD (ns.map D.int) none (some 1)), D.tup (DL.cutD (ns.map D.int) none (some (-1)) ++ DL.cutD (ns.map D.int) none (some 1)), D.tup (DL.cutD (ns.map D.int) none (some (-1)) ++ [D.int (((ns.map D.int).length : Nat) : Int)]), D.tup (List.replicate (((ns.map D.int).length : Nat) : Int).toNat [D.non]).flatten] ++ [D.tup (DL.cutD (ns.map D.int) none (some (-1)) ++ [D.bl true]), D.tup (DL.cutD (ns.map D.int) none (some (-1)) ++ [D.int (-1)]), D.tup [D.tup (ns.map D.int)], d, D.dct [] [], D.str "0", D.int 0]).length = 17 := by simp
    generalize ([D.tup (ns.map D.int), D.tup (m1.map D.int), D.tup (m2.map D.int), D.tup (ns.map D.int).reverse, D.lst (ns.map D.int)] ++ [D.tup (DL.cutD (ns.map D.int) (some 1) none), D.tup (ns.map D.int ++ DL.cutD (ns.map D.int) none (some 1)), D.tup (DL.cutD (ns.map D.int) none (some (-1)) ++ DL.cutD (ns.map D.int) none (some 1)), D.tup (DL.cutD (ns.map D.int) none (some (-1)) ++ [D.int (((ns.map D.int).length : Nat) : Int)]), D.tup (List.replicate (((ns.map D.int).length : Nat) : Int).toNat [D.non]).flatten] ++ [D.tup (DL.cutD (ns.map D.int) none (some (-1)) ++ [D.bl true]), D.tup (DL.cutD (ns.map D.int) none (some (-1)) ++ [D.int (-1)]), D.tup [D.tup (ns.map D.int)], d, D.dct [] [], D.str "0", D.int 0]) = S at fS lS
    simp_wf
    simp only [dLc_eq]
    simp_wf
    refine lc_map (fun d => match d with | .int x => .str (toString x : String) | d => d) rfl (by omega) (fun d hd k hk => ?_) ?_
    · obtain ⟨x, hx, rfl⟩ := List.mem_map.mp hd
      have := hv x hx
      unfold LcT
      simp_wf
      exact ⟨log1920 (by omega), hk⟩
    · rw [List.map_map]
      simp_wf
      refine ⟨by omega, h _ (by rw [List.length_append, List.length_singleton]; omega) (fits_app fS (fits_cons (tup (fun d hd => ?_) (by rw [List.length_map]; omega)) fits_nil))⟩
      obtain ⟨x, hx, rfl⟩ := List.mem_map.mp hd
      have := hv x hx
      exact digit_fit (by omega) (by omega)
/-! ### == of plans -/
def fEq (C : Addr) : DF := fun ds k _ => match ds with
  | [.obj C1 n1 [t, o, w], .obj C2 n2 [t', o', w']] => (C1 = C ∧ n1 = pNs ∧ C2 = C ∧ n2 = pNs) ∧ (eqOk t = true ∧ eqOk o = true ∧ eqOk w = true ∧ eqOk t' = true ∧ eqOk o' = true ∧ eqOk w' = true) ∧ k (.bl (PyData.eqv t.py t'.py && PyData.eqv o.py o'.py && PyData.eqv w.py w'.py))
  | _ => False
abbrev n_Plan___eq__ : List Str := ["self", "other"]
abbrev t_Plan___eq__ (C_Plan : Addr) : DTS := (dRet (dAndV (dDat (dIsC C_Plan (dRel (dVar 1)))) (dAndV (dOp oEq (dDat (dFld C_Plan "held_tasks" (dRel (dVar 0)))) (dDat (dFld C_Plan "held_tasks" (dRel (dVar 1))))) (dAndV (dOp oEq (dDat (dFld C_Plan "held_order" (dRel (dVar 0)))) (dDat (dFld C_Plan "held_order" (dRel (dVar 1))))) (dOp oEq (dDat (dFld C_Plan "held_workers" (dRel (dVar 0)))) (dDat (dFld C_Plan "held_workers" (dRel (dVar 1)))))))))
theorem rd_Plan___eq__ {C_Plan : Addr} : ∀ ds kk xx, ds.length = 2 → (fEq C_Plan) ds kk xx → t_Plan___eq__ C_Plan (dEnds kk) (env0 n_Plan___eq__ ds) := by
  unfold t_Plan___eq__ n_Plan___eq__
  rintro ds kk xx hl h
  match ds, hl, h with
  | [.obj C1 n1 [t, o, w], .obj C2 n2 [t', o', w']], _, ⟨⟨e1, e2, e3, e4⟩, ⟨h1, h2, h3, h4, h5, h6⟩, hk⟩ =>
    subst e1 e2 e3 e4
    simp_wf
    simp only [dIsC]
    simp_wf
    show eqOk t = true ∧ eqOk t' = true ∧ (if t.py.eqv t'.py = true then eqOk o = true ∧ eqOk o' = true ∧ (if o.py.eqv o'.py = true then eqOk w = true ∧ eqOk w' = true ∧ kk (.bl (w.py.eqv w'.py)) else kk (.bl false)) else kk (.bl false))
    refine ⟨h1, h4, ?_⟩
    cases c1 : t.py.eqv t'.py with
    | false =>
      rw [c1] at hk
      exact hk
    | true =>
      rw [c1, Bool.true_and] at hk
      rw [if_pos rfl]
      refine ⟨h2, h5, ?_⟩
      cases c2 : o.py.eqv o'.py with
      | false => rw [c2] at hk; exact hk
      | true =>
        rw [c2, Bool.true_and] at hk
        rw [if_pos rfl]
        exact ⟨h3, h6, hk⟩
/-! ### data of numbers and tuples is equal to itself -/
structure Pl (m : Nat) (d : D) : Prop where
  flat : d.flatd = true
  lay : d.py.canLay0 = true
  dp : d.py.depth ≤ m
  self : PyData.eqv d.py d.py = true
theorem pl_int {i : Int} {m : Nat} : Pl m (.int i) := ⟨rfl, by simp [D.py, PyData.canLay0], by simp [D.py, PyData.depth], by rw [eqv_int]; exact decide_eq_true rfl⟩
theorem pls {m : Nat} : ∀ {ds : List D}, (∀ d ∈ ds, Pl m d) → D.flatds ds = true ∧ PyData.canLayAll0 (D.pys ds) = true ∧ PyData.depthAll (D.pys ds) ≤ m ∧ PyData.eqvAll (D.pys ds) (D.pys ds) = true
  | [], _ => ⟨rfl, by simp [D.pys, PyData.canLayAll0], by simp [D.pys, PyData.depthAll], by simp [D.pys, PyData.eqvAll]⟩
  | d :: ds, h => by
    have h1 := h d List.mem_cons_self
    obtain ⟨a, b, c, e⟩ := pls (ds := ds) fun x hx => h x (List.mem_cons_of_mem _ hx)
    refine ⟨?_, ?_, ?_, ?_⟩
    · show (d.flatd && D.flatds ds) = true
      rw [h1.flat, a]; rfl
    · simp [D.pys, PyData.canLayAll0, h1.lay, b]
    · simp only [D.pys, PyData.depthAll]
      have := h1.dp
      omega
    · simp [D.pys, PyData.eqvAll, h1.self, e]
theorem pl_tup {m : Nat} {ds : List D} (h : ∀ d ∈ ds, Pl m d) : Pl (m + 1) (.tup ds) := by
  obtain ⟨a, b, c, e⟩ := pls h
  refine ⟨a, by simp [D.py, PyData.canLay0, b], ?_, by simp [D.py, PyData.eqv, e]⟩
  simp only [D.py, PyData.depth]
  omega
theorem Pl.ok {m : Nat} {d : D} (h : Pl m d) (hm : m ≤ 64 := by decide) : eqOk d = true := by
  unfold eqOk SeqAt.shaped
  rw [h.flat, h.lay, decide_eq_true (Nat.le_trans h.dp hm)]
  rfl
theorem pl_ints {ns : List Int} : Pl 1 (.tup (ns.map D.int)) := pl_tup fun d hd => by
  obtain ⟨x, hx, rfl⟩ := List.mem_map.mp hd
  exact pl_int
theorem pl_fr {p : Int × Int} : Pl 1 (frD p) := pl_tup fun d hd => by
  rcases List.mem_cons.mp hd with rfl | hd
  · exact pl_int
  · rw [List.mem_singleton.mp hd]; exact pl_int
theorem TasksD.pl {m : Nat} {ts : List D} (h : TasksD m ts) : Pl 3 (.tup ts) := pl_tup fun d hd => by
  obtain ⟨l, line, pm, hall⟩ := h
  obtain ⟨j, hj⟩ := List.getElem?_of_mem hd
  obtain ⟨ns, p, q, rfl, _⟩ := (hall j d hj).ex
  refine pl_tup fun d hd => ?_
  rcases List.mem_cons.mp hd with rfl | hd
  · exact pl_ints
  · rcases List.mem_cons.mp hd with rfl | hd
    · exact pl_fr
    · rw [List.mem_singleton.mp hd]; exact pl_fr
theorem OrdD.pl {m : Nat} {o : D} (h : OrdD m o) : Pl 1 o := by
  obtain ⟨ns, rfl, _⟩ := h
  exact pl_ints
abbrev n_law_k06 : List Str := ["_law_script", "_law_deck_here", "_law_turn", "_law_tasks_here", "_law_order", "_law_workers", "_law_plan", "_law_value", "_law_due"]
abbrev t_law_k06 (C_Plan : Addr) (C_BadPlan : Addr) : DTS := (dSeq (dDeck 1 0)
  (dSeq (dFor (diRg1 (dCons (dC (.int 4)) dNil)) (dName 2) (dSeq (dAsg (dCallB 1 0 fParts dNil) (dgLst 3 (dgCons (dName 3) (dgCons (dName 4) (dgCons (dName 5) dgNil)))))
  (dSeq (dSet 6 (dCall 3 (fPlan C_Plan C_BadPlan) (fun _ => False) (dCons (dRel (dVar 3)) (dCons (dRel (dVar 4)) (dCons (dRel (dVar 5)) dNil)))))
  (dSeq (dFor (diSeq (dDat (dCallB 1 1 fOrders (dCons (dRel (dVar 4)) dNil)))) (dName 7) (dSeq (dSet 8 (dRel (dLst (dCons (dRel (dVar 3)) (dCons (dRel (dVar 7)) (dCons (dRel (dVar 5)) dNil))))))
  (dSeq (dIf (dNot (dTst (dDat (dCall 2 fOrdL (fun _ => False) (dCons (dRel (dVar 7)) (dCons (dRel (dUn oLen (dVar 3))) dNil)))))) (dSet 8 (dCall 1 fDueE (fun _ => False) (dCons (dC (.tup [.non, (.str "order")])) dNil))) dNext)
  (dIf (dTst (dOp (oStrs true) (dUn oRepr (dDat (dCall 2 (fOrdd C_Plan) (fun _ => False) (dCons (dRel (dVar 6)) (dCons (dRel (dVar 7)) dNil))))) (dUn oRepr (dVar 8)))) (dRet (dDat (dC (.bl false)))) dNext))))
  (dSeq (dFor (diSeq (dLst (dCons (dC (.int 1)) (dCons (dC (.int 2)) (dCons (dC (.int 3)) (dCons (dC (.int 0)) (dCons (dC (.int 4)) (dCons (dRel (dUn oNeg (dDat (dC (.int 1))))) (dCons (dC (.bl true)) (dCons (dC .non) (dCons (dC (.str "2")) (dCons (dC (.tup [(.int 1)])) (dCons (dRel (dNew [(.int 3)])) (dCons (dC (.int (10 ^ 39))) (dCons (dCallB 1 0 fOdd dNil) (dCons (dC (.dct [] [])) (dCons (dC (.str "")) dNil))))))))))))))))) (dName 7) (dSeq (dSet 8 (dRel (dLst (dCons (dRel (dVar 3)) (dCons (dRel (dVar 4)) (dCons (dRel (dVar 7)) dNil))))))
  (dSeq (dIf (dOr (dNot (dTst (dDat (dCall 1 fWhole (fun _ => False) (dCons (dRel (dVar 7)) dNil))))) (dNot (dTst (dChain oLe oLe (dDat (dC (.int 1))) (dVar 7) (dDat (dC (.int 3))))))) (dSet 8 (dCall 1 fDueE (fun _ => False) (dCons (dC (.tup [.non, (.str "workers")])) dNil))) dNext)
  (dIf (dTst (dOp (oStrs true) (dUn oRepr (dDat (dCall 2 (fMann C_Plan) (fun _ => False) (dCons (dRel (dVar 6)) (dCons (dRel (dVar 7)) dNil))))) (dUn oRepr (dVar 8)))) (dRet (dDat (dC (.bl false)))) dNext))))
  (dSeq (dIf (dOr (dNot (dTst (dOp (oOwn C_Plan (fEq C_Plan)) (dDat (dMeth C_Plan "with_order" 1 (fWO C_Plan C_BadPlan) (fun _ => False) (dRel (dVar 6)) (dCons (dRel (dVar 4)) dNil))) (dVar 6)))) (dNot (dTst (dOp (oOwn C_Plan (fEq C_Plan)) (dDat (dMeth C_Plan "with_workers" 1 (fWW C_Plan C_BadPlan) (fun _ => False) (dRel (dVar 6)) (dCons (dRel (dVar 5)) dNil))) (dVar 6))))) (dRet (dDat (dC (.bl false)))) dNext)
  (dIf (dTst (dOp (oStrs true) (dUn oRepr (dDat (dCall 1 (fTold C_Plan) (fun _ => False) (dCons (dRel (dVar 6)) dNil)))) (dUn oRepr (dLst (dCons (dRel (dVar 3)) (dCons (dRel (dVar 4)) (dCons (dRel (dVar 5)) dNil))))))) (dRet (dDat (dC (.bl false)))) dNext)))))))
  (dRet (dDat (dC (.bl true))))))
theorem rd_law_k06 {C_Plan : Addr} {C_BadPlan : Addr} : ∀ ns : List Int, ns.length ≤ 63 → t_law_k06 C_Plan C_BadPlan lEnds (env0 n_law_k06 [.lst (ns.map D.int)]) := by
  unfold t_law_k06 n_law_k06
  intro ns l63
  refine seq_d fun N hN => ?_
  simp_wf
  refine ⟨⟨ns, rfl, l63⟩, fun b => hN _ (seq_d fun N2 hN2 => ?_)⟩
  simp only [dFor_eq]
  simp_wf
  refine ⟨by decide, by decide, for_in (fun i e => ∃ x2 x3 x4 x5 x6 x7 x8, e = [.dat (.lst (ns.map D.int)), .bag b, x2, x3, x4, x5, x6, x7, x8]) ⟨_, _, _, _, _, _, _, rfl⟩ ?_ ?_⟩
  · rintro i d e hd ⟨x2, x3, x4, x5, x6, x7, x8, rfl⟩ N3 hN3
    simp_wf
    refine seq_d fun N4 hN4 => ?_
    simp_wf
    intro m ts o w m1 m5 hts ho w1 w3
    simp_wf
    refine hN4 _ (seq_d fun N5 hN5 => ?_)
    have lt : ts.length = m := hts.1
    obtain ⟨line, pm, hall⟩ := hts.2
    have fts : ∀ d ∈ ts, Fit 140 13000 8 d := fun d hd => by
      obtain ⟨j, hj⟩ := List.getElem?_of_mem hd
      exact ((hall j d hj).fit pm m5).up
    have ft : Fit 140 65100 9 (.tup ts) := (fit_tup (L := 5) fts (by omega)).up
    have fo := (ho.fit m5).up (b' := 140) (n' := 65100) (m' := 9)
    have fw : Fit 140 65100 9 (.int w) := (fit_int (b := 10) (by have k10 : (2 : Nat) ^ 10 = 1024 := rfl; omega)).up
    have fl : Fit 140 400000 11 (.lst [.tup ts, o, .int w]) := (fit_lst (L := 3) (fits_cons ft (fits_cons fo (fits_cons fw fits_nil))) (by simp)).up
    have pe := plan_ok m1 m5 hts ho w1 w3
    have te := tasksE_n (ts := ts) ⟨by omega, by omega⟩ hts.first hts.noring
    simp_wf
    refine ⟨⟨ft.small, fo.small, fw.small⟩, fun _ => hN5 _ (seq_d fun N6 hN6 => ?_), fun n y z => by rw [pe] at z; cases z⟩
    simp only [dFor_eq]
    simp_wf
    have ho' := ho
    obtain ⟨os, eo, po⟩ := ho
    subst eo
    have hv : ∀ x ∈ os, 0 ≤ x ∧ x < 5 := fun x hx => by have := mem_rgI.mp (po.subset hx); omega
    have lo : os.length = m := by rw [po.length_eq, rgI_len]
    refine ⟨os, rfl, ⟨by omega, by omega⟩, hv, fun vs lv fv => ?_⟩
    simp_wf
    refine for_in (fun i e => ∃ x7 x8, e = [.dat (.lst (ns.map D.int)), .bag b, .dat d, .dat (.tup ts), .dat (.tup (os.map D.int)), .dat (.int w), .dat (.obj C_Plan pNs [.tup ts, .tup (os.map D.int), .int w]), x7, x8]) ⟨_, _, rfl⟩ ?_ ?_
    · rintro i2 v e hv2 ⟨x7, x8, rfl⟩ N7 hN7
      have fv1 := (fv v (List.mem_of_getElem? hv2)).up (b' := 140) (n' := 65100) (m' := 9)
      have fd := due_fit ft fv1 fw (by decide) (by decide)
      simp_wf
      refine seq_d fun N8 hN8 => ?_
      simp_wf
      refine hN8 _ (seq_d fun N9 hN9 => ?_)
      have rest : ∀ q, q = dueP (.tup ts) v (.int w) (planE (.tup ts) v (.int w)) → N9 [.dat (.lst (ns.map D.int)), .bag b, .dat d, .dat (.tup ts), .dat (.tup (os.map D.int)), .dat (.int w), .dat (.obj C_Plan pNs [.tup ts, .tup (os.map D.int), .int w]), .dat v, .dat q] := fun q eq => by
        subst eq
        refine hN9 _ (if_d fun T U hT hU => ?_)
        simp_wf
        refine ⟨⟨rfl, rfl⟩, ⟨ft.small, fv1.small, fw.small⟩, fd.r, fd.r, ?_⟩
        rw [if_neg (fun z => z rfl)]
        exact hU _ (hN7 _ ⟨_, _, rfl⟩)
      refine if_d fun T U hT hU => ?_
      simp_wf
      refine ⟨⟨fv1.small, by omega, by omega⟩, ?_⟩
      rw [Int.toNat_natCast, ord_same]
      cases co : okOrd ts.length v with
      | false =>
        simp_wf
        refine hT _ ?_
        simp_wf
        refine rest _ ?_
        rw [planE_o te co]
        rfl
      | true =>
        simp_wf
        refine hU _ ?_
        simp_wf
        refine rest _ ?_
        rw [planE_n te co (wk_ok w1 w3)]
        rfl
    · rintro e ⟨x7, x8, rfl⟩
      refine hN6 _ (seq_d fun N7 hN7 => ?_)
      simp only [dFor_eq]
      simp only [↓diSeq, ↓dRel, ↓dLst, ↓dCons, ↓dC, ↓dVar, ↓dUn, ↓dOp, ↓dDat, ↓dNil, ↓dTup, ↓dNew, ↓dCallB, List.getElem?_cons_zero, List.getElem?_cons_succ, ↓r_rel_dat, ↓r_rd_dat, ↓r_rel_new, ↓r_rd_new, ↓oa_ii, ↓on_i]
      simp_wf
      intro d1 f1
      have fvs : ∀ v ∈ [D.int 1, D.int 2, D.int 3, D.int 0, D.int 4, D.int (-1), D.bl true, D.non, D.str "2", D.tup [D.int 1], D.lst [D.int 3], D.int (10 ^ 39), d1, D.dct [] [], D.str ""], Fit 140 65100 9 v :=
        fits_app (xs := [D.int 1, D.int 2, D.int 3, D.int 0, D.int 4, D.int (-1), D.bl true, D.non, D.str "2", D.tup [D.int 1], D.lst [D.int 3], D.int (10 ^ 39)]) (fits_of (by decide +kernel)) (fits_cons f1.up (fits_of (by decide +kernel)))
      generalize [D.int 1, D.int 2, D.int 3, D.int 0, D.int 4, D.int (-1), D.bl true, D.non, D.str "2", D.tup [D.int 1], D.lst [D.int 3], D.int (10 ^ 39), d1, D.dct [] [], D.str ""] = ws at fvs ⊢
      refine for_in (fun i e => ∃ x7 x8, e = [.dat (.lst (ns.map D.int)), .bag b, .dat d, .dat (.tup ts), .dat (.tup (os.map D.int)), .dat (.int w), .dat (.obj C_Plan pNs [.tup ts, .tup (os.map D.int), .int w]), x7, x8]) ⟨_, _, rfl⟩ ?_ ?_
      · rintro i2 v e hv2 ⟨x7, x8, rfl⟩ N8 hN8
        have fv1 := fvs v (List.mem_of_getElem? hv2)
        have fd := due_fit ft fo fv1 (by decide) (by decide)
        simp_wf
        refine seq_d fun N9 hN9 => ?_
        simp_wf
        refine hN9 _ (seq_d fun N10 hN10 => ?_)
        have rest : ∀ q, q = dueP (.tup ts) (.tup (os.map D.int)) v (planE (.tup ts) (.tup (os.map D.int)) v) → N10 [.dat (.lst (ns.map D.int)), .bag b, .dat d, .dat (.tup ts), .dat (.tup (os.map D.int)), .dat (.int w), .dat (.obj C_Plan pNs [.tup ts, .tup (os.map D.int), .int w]), .dat v, .dat q] := fun q eq => by
          subst eq
          refine hN10 _ (if_d fun T U hT hU => ?_)
          simp_wf
          refine ⟨⟨rfl, rfl⟩, ⟨ft.small, fo.small, fv1.small⟩, fd.r, fd.r, ?_⟩
          rw [if_neg (fun z => z rfl)]
          exact hU _ (hN8 _ ⟨_, _, rfl⟩)
        have co : okOrd ts.length (.tup (os.map D.int)) = true := by rw [lt]; exact ho'.ok
        have bad' : okWk v = false → dueE .non (.str "workers") = dueP (.tup ts) (.tup (os.map D.int)) v (planE (.tup ts) (.tup (os.map D.int)) v) := fun z => by rw [planE_w te co z]; rfl
        have ok' : okWk v = true → (.lst [.tup ts, .tup (os.map D.int), v]) = dueP (.tup ts) (.tup (os.map D.int)) v (planE (.tup ts) (.tup (os.map D.int)) v) := fun z => by rw [planE_n te co z]; rfl
        refine if_d fun T U hT hU => ?_
        simp_wf
        refine ⟨small_no fv1.small, ?_⟩
        have goT : okWk v = false → T [.dat (.lst (ns.map D.int)), .bag b, .dat d, .dat (.tup ts), .dat (.tup (os.map D.int)), .dat (.int w), .dat (.obj C_Plan pNs [.tup ts, .tup (os.map D.int), .int w]), .dat v, .dat (.lst [.tup ts, .tup (os.map D.int), v])] := fun z => hT _ (by simp_wf; exact rest _ (bad' z))
        have goU : okWk v = true → U [.dat (.lst (ns.map D.int)), .bag b, .dat d, .dat (.tup ts), .dat (.tup (os.map D.int)), .dat (.int w), .dat (.obj C_Plan pNs [.tup ts, .tup (os.map D.int), .int w]), .dat v, .dat (.lst [.tup ts, .tup (os.map D.int), v])] := fun z => hU _ (by simp_wf; exact rest _ (ok' z))
        cases v with
        | int i =>
          simp only [isID]
          simp_wf
          have ew : okWk (.int i) = (decide (1 ≤ i) && decide (i ≤ 3)) := rfl
          rw [ew] at goT goU
          by_cases c1 : 1 ≤ i
          · rw [if_pos c1]
            by_cases c2 : i ≤ 3
            · rw [if_neg (fun z => z c2)]
              exact goU (by rw [decide_eq_true c1, decide_eq_true c2]; rfl)
            · rw [if_pos c2]
              exact goT (by rw [decide_eq_true c1, decide_eq_false c2]; rfl)
          · rw [if_neg c1]
            exact goT (by rw [decide_eq_false c1]; rfl)
        | _ => exact goT rfl
      · rintro e ⟨x7, x8, rfl⟩
        refine hN7 _ (seq_d fun N8 hN8 => if_d fun T U hT hU => ?_)
        simp_wf
        have own : ∀ k : Rv → Prop, k (.dat (.bl true)) → oOwn C_Plan (fEq C_Plan) (.dat (.obj C_Plan pNs [.tup ts, .tup (os.map D.int), .int w])) (.dat (.obj C_Plan pNs [.tup ts, .tup (os.map D.int), .int w])) k := fun k hk => by
          refine ⟨⟨rfl, rfl⟩, ⟨rfl, rfl, rfl, rfl⟩, ⟨hts.pl.ok, ho'.pl.ok, eqOk_int, hts.pl.ok, ho'.pl.ok, eqOk_int⟩, _, rfl, ?_⟩
          rw [hts.pl.self, ho'.pl.self, (pl_int (m := 1)).self]
          exact hk
        refine ⟨by decide +kernel, ⟨rfl, rfl⟩, ⟨ft.small, fo.small, fw.small⟩, fun _ => own _ ?_, fun n y z => by rw [pe] at z; cases z⟩
        simp_wf
        refine ⟨by decide +kernel, ⟨rfl, rfl⟩, ⟨ft.small, fo.small, fw.small⟩, fun _ => own _ ?_, fun n y z => by rw [pe] at z; cases z⟩
        simp_wf
        refine hU _ (hN8 _ (if_d fun T U hT hU => ?_))
        simp_wf
        refine ⟨⟨rfl, rfl⟩, fl.r, fl.r, ?_⟩
        rw [if_neg (fun z => z rfl)]
        exact hU _ (hN3 _ ⟨_, _, _, _, _, _, _, rfl⟩)
  · rintro e ⟨x2, x3, x4, x5, x6, x7, x8, rfl⟩
    refine hN2 _ ?_
    simp_wf
end KK
namespace KK
open PySem PySem.Spec PyProof.Rows L2 LL DL K01
/-! ### with_forerunners -/
def fWF (C CB CN : Addr) : DF := fun ds k x => match ds with
  | [.obj C' ns [.tup ts, o, w], .int i, f] => (C' = C ∧ ns = pNs ∧ ts.length ≤ 5 ∧ o.small = true ∧ w.small = true ∧ 0 ≤ i ∧ i < ts.length) ∧ ∃ f0 lo hi, ts[i.toNat]? = some (.tup [f0, lo, hi]) ∧
    fWT C CB CN [.obj C' ns [.tup ts, o, w], .int i, .tup [f, lo, hi]] k x
  | _ => False
abbrev n_Plan_with_forerunners : List Str := ["self", "number", "forerunners", "low", "high"]
abbrev t_Plan_with_forerunners (C_BadPlan : Addr) (C_NoTask : Addr) (C_Plan : Addr) (xx : Er → Prop) : DTS := (dSeq (dAsg (dRel (dSl (dOp oIx (dDat (dFld C_Plan "held_tasks" (dRel (dVar 0)))) (dVar 1)) (doSome (dC (.int 1))) doNone)) (dgTup 2 (dgCons (dName 3) (dgCons (dName 4) dgNil))))
  (dRet (dDat (dMeth C_Plan "with_task" 2 (fWT C_Plan C_BadPlan C_NoTask) xx (dRel (dVar 0)) (dCons (dRel (dVar 1)) (dCons (dTup (dCons (dRel (dVar 2)) (dCons (dRel (dVar 3)) (dCons (dRel (dVar 4)) dNil)))) dNil))))))
theorem rd_Plan_with_forerunners {C_BadPlan : Addr} {C_NoTask : Addr} {C_Plan : Addr} : ∀ xx ds kk, ds.length = 3 → (fWF C_Plan C_BadPlan C_NoTask) ds kk xx → t_Plan_with_forerunners C_BadPlan C_NoTask C_Plan xx (dEnds kk) (env0 n_Plan_with_forerunners ds) := by
  unfold t_Plan_with_forerunners n_Plan_with_forerunners
  intro xx
  rintro ds kk hl h
  match ds, hl, h with
  | [.obj C' ns [.tup ts, o, w], .int i, f], _, ⟨⟨e1, e2, l5, so, sw, i0, i1⟩, f0, dl, dh, et, hw⟩ =>
    subst e1 e2
    refine seq_d fun N hN => ?_
    simp_wf
    simp only [lk_t]
    simp_wf
    have ea : L2.atI ts i = some (.tup [f0, dl, dh]) := by
      unfold L2.atI ixN
      rw [if_pos i0, if_pos i1]
      exact et
    rw [ea]
    dsimp only
    simp_wf
    rw [cut_from (by decide)]
    show dgTup 2 (dgCons (dName 3) (dgCons (dName 4) dgNil)) (.tup [dl, dh]) _ N
    simp_wf
    refine hN _ ?_
    simp_wf
    exact ⟨by decide +kernel, hw⟩
def noP (C : Addr) (i j : D) : Er := ⟨C, ["behind", "before"], [j, i]⟩
def fWoP (C CB CN CP : Addr) : DF := fun ds k x => match ds with
  | [.obj C' ns [.tup ts, o, w], a, b] => (C' = C ∧ ns = pNs ∧ ts.length ≤ 5 ∧ noObj a = true ∧ noObj b = true) ∧ (isNum ts.length a = false → x (noT CN a)) ∧ (isNum ts.length a = true → isNum ts.length b = false → x (noT CN b)) ∧
    ∀ i j : Int, a = .int i → b = .int j → 0 ≤ i → i < ts.length → 0 ≤ j → j < ts.length → ∃ (ms : List Int) (dl dh : D), ts[j.toNat]? = some (.tup [.tup (ms.map D.int), dl, dh]) ∧ ms.length ≤ 5 ∧
      (i ∉ ms → x (noP CP a b)) ∧ (i ∈ ms → fWF C CB CN [.obj C' ns [.tup ts, o, w], b, .tup ((ms.filter fun y => decide (y ≠ i)).map D.int)] k x)
  | _ => False
abbrev n_Plan_without_pair : List Str := ["self", "before", "behind", "forerunners", "number"]
abbrev t_Plan_without_pair (C_BadPlan : Addr) (C_NoTask : Addr) (C_NoPair : Addr) (C_Plan : Addr) (xx : Er → Prop) : DTS := (dSeq (dDrop (dDat (dMeth C_Plan "check_number" 1 (fChk C_Plan C_NoTask) xx (dRel (dVar 0)) (dCons (dRel (dVar 1)) dNil))))
  (dSeq (dDrop (dDat (dMeth C_Plan "check_number" 1 (fChk C_Plan C_NoTask) xx (dRel (dVar 0)) (dCons (dRel (dVar 2)) dNil))))
  (dSeq (dSet 3 (dRel (dOp oIx (dOp oIx (dDat (dFld C_Plan "held_tasks" (dRel (dVar 0)))) (dVar 2)) (dDat (dC (.int 0))))))
  (dSeq (dIf (dTst (dOp (oIn true) (dVar 1) (dVar 3))) (dRaise2 C_NoPair "before" "behind" xx (dCons (dRel (dVar 1)) (dCons (dRel (dVar 2)) dNil))) dNext)
  (dRet (dDat (dMeth C_Plan "with_forerunners" 2 (fWF C_Plan C_BadPlan C_NoTask) xx (dRel (dVar 0)) (dCons (dRel (dVar 2)) (dCons (dRel (dUn oTuple (dLc (diSeq (dVar 3)) (dName 4) (dTst (dOp oNe (dVar 4) (dVar 1))) (dRel (dVar 4)) [4]))) dNil)))))))))
theorem rd_Plan_without_pair {C_BadPlan : Addr} {C_NoTask : Addr} {C_NoPair : Addr} {C_Plan : Addr} : ∀ xx ds kk, ds.length = 3 → (fWoP C_Plan C_BadPlan C_NoTask C_NoPair) ds kk xx → t_Plan_without_pair C_BadPlan C_NoTask C_NoPair C_Plan xx (dEnds kk) (env0 n_Plan_without_pair ds) := by
  unfold t_Plan_without_pair n_Plan_without_pair
  intro xx
  rintro ds kk hl h
  match ds, hl, h with
  | [.obj C' ns [.tup ts, o, w], a, b], _, ⟨⟨e1, e2, l5, na, nb⟩, h1, h2, h3⟩ =>
    subst e1 e2
    refine seq_d fun N hN => ?_
    simp_wf
    refine ⟨by decide +kernel, ⟨rfl, rfl, l5, na⟩, fun za => hN _ (seq_d fun N2 hN2 => ?_), h1⟩
    simp_wf
    refine ⟨by decide +kernel, ⟨rfl, rfl, l5, nb⟩, fun zb => hN2 _ (seq_d fun N3 hN3 => ?_), h2 za⟩
    obtain ⟨i, ei, i0, i1⟩ := isNum_int za
    obtain ⟨j, ej, j0, j1⟩ := isNum_int zb
    subst ei ej
    obtain ⟨ms, dl, dh, et, l6, g1, g2⟩ := h3 i j rfl rfl i0 i1 j0 j1
    have ea : L2.atI ts j = some (.tup [.tup (ms.map D.int), dl, dh]) := by
      unfold L2.atI ixN
      rw [if_pos j0, if_pos j1]
      exact et
    simp_wf
    simp only [lk_t]
    simp_wf
    rw [ea]
    dsimp only
    simp_wf
    refine hN3 _ (seq_d fun N4 hN4 => if_d fun T U hT hU => ?_)
    simp_wf
    refine ⟨⟨rfl, by rw [List.all_map, List.all_eq_true]; exact fun _ _ => rfl⟩, ?_⟩
    rw [inD_ints]
    by_cases c : i ∈ ms
    · rw [decide_eq_true c]
      simp_wf
      refine hU _ (hN4 _ ?_)
      simp_wf
      refine ⟨by decide +kernel, ?_⟩
      simp only [dLc_eq]
      simp_wf
      refine lc_fil (fun d => match d with | .int y => decide (y ≠ i) | _ => true) rfl (by rw [List.length_map]; omega) (fun d hd k hk => ?_) ?_
      · obtain ⟨y, hy, rfl⟩ := List.mem_map.mp hd
        unfold LcT
        simp_wf
        by_cases c2 : y = i
        · rw [if_neg (by simpa using c2)] at hk
          rw [if_neg (fun z => z c2)]
          exact hk
        · rw [if_pos (by simpa using c2)] at hk
          rw [if_pos c2]
          exact hk
      · rw [List.filter_map]
        simp_wf
        exact g2 c
    · rw [decide_eq_false c]
      simp_wf
      refine hT _ ?_
      simp_wf
      exact g1 c
/-! ### pairs -/
def prs : Nat → List (List Int) → List (Int × Int)
  | _, [] => []
  | i, f :: fs => f.map (fun x => (x, ((i : Nat) : Int))) ++ prs (i + 1) fs
theorem prs_snoc : ∀ {fs : List (List Int)} {i : Nat} {f : List Int}, prs i (fs ++ [f]) = prs i fs ++ f.map (fun x => (x, ((i + fs.length : Nat) : Int)))
  | [], i, f => by simp [prs]
  | g :: fs, i, f => by
    show g.map _ ++ prs (i + 1) (fs ++ [f]) = (g.map _ ++ prs (i + 1) fs) ++ _
    rw [prs_snoc, List.append_assoc, show i + 1 + fs.length = i + (g :: fs).length by rw [List.length_cons]; omega]
theorem prs_take {fs : List (List Int)} {j : Nat} {f : List Int} (h : fs[j]? = some f) : prs 0 (fs.take (j + 1)) = prs 0 (fs.take j) ++ f.map (fun x => (x, ((j : Nat) : Int))) := by
  have l : j < fs.length := (List.getElem?_eq_some_iff.mp h).1
  rw [List.take_succ, h, Option.toList_some, prs_snoc, List.length_take, Nat.min_eq_left (by omega), Nat.zero_add]
theorem prs_val {m : Int} : ∀ {fs : List (List Int)} {i : Nat}, (∀ f ∈ fs, ∀ x ∈ f, 0 ≤ x ∧ x < m) → ∀ p ∈ prs i fs, 0 ≤ p.1 ∧ p.1 < m ∧ 0 ≤ p.2 ∧ p.2 < (i + fs.length : Nat)
  | [], _, _, p, hp => by cases hp
  | f :: fs, i, h, p, hp => by
    rcases List.mem_append.mp hp with hp | hp
    · obtain ⟨x, hx, rfl⟩ := List.mem_map.mp hp
      have := h f List.mem_cons_self x hx
      rw [List.length_cons]
      refine ⟨this.1, this.2, ?_, ?_⟩ <;> dsimp only <;> omega
    · have := prs_val (fs := fs) (i := i + 1) (fun g hg => h g (List.mem_cons_of_mem _ hg)) p hp
      rw [List.length_cons]
      refine ⟨this.1, this.2.1, this.2.2.1, ?_⟩
      have := this.2.2.2
      rw [show i + (fs.length + 1) = i + 1 + fs.length by omega]
      exact this
theorem prs_len {n : Nat} : ∀ {fs : List (List Int)} {i : Nat}, (∀ f ∈ fs, f.length ≤ n) → (prs i fs).length ≤ n * fs.length
  | [], _, _ => Nat.zero_le _
  | f :: fs, i, h => by
    have := prs_len (fs := fs) (i := i + 1) fun g hg => h g (List.mem_cons_of_mem _ hg)
    have := h f List.mem_cons_self
    show (f.map _ ++ prs (i + 1) fs).length ≤ _
    rw [List.length_append, List.length_map, List.length_cons, Nat.mul_add]
    omega
theorem Gr.flen {ts : List D} {fs : List (List Int)} (g : Gr ts fs) : ∀ f ∈ fs, f.length ≤ 5 := fun f hf => Nat.le_trans (nodup_few (g.nd f hf) (g.val f hf)) g.few
theorem Gr.prs {ts : List D} {fs : List (List Int)} (g : Gr ts fs) : (prs 0 fs).length < 64 ∧ ∀ p ∈ prs 0 fs, 0 ≤ p.1 ∧ p.1 < 10 ∧ 0 ≤ p.2 ∧ p.2 < 10 := by
  have f5 := g.few
  have l := prs_len (n := 5) (i := 0) g.flen
  refine ⟨by have := Nat.mul_le_mul_left 5 f5; omega, fun p hp => ?_⟩
  have := prs_val (m := fs.length) (i := 0) g.val p hp
  omega
def fPairs (C : Addr) : DF := fun ds k _ => match ds with
  | [.obj C' ns [.tup ts, _, _]] => (C' = C ∧ ns = pNs) ∧ ∃ fs, Gr ts fs ∧ ∀ qs : List (Int × Int), qs.Perm (prs 0 fs) → qs.Pairwise lePr → k (.tup (qs.map prD))
  | _ => False
theorem enD_get {ts : List D} {i : Nat} {d : D} (h : (enD ts)[i]? = some d) : ∃ t, ts[i]? = some t ∧ d = .tup [.int ((i : Nat) : Int), t] := by
  unfold enD at h
  rw [List.getElem?_map] at h
  by_cases l : i < ts.length
  · rw [List.getElem?_range l] at h
    refine ⟨ts[i], List.getElem?_eq_getElem l, ?_⟩
    have h : some (D.tup [.int ((i : Nat) : Int), ts[i]?.getD .non]) = some d := h
    rw [List.getElem?_eq_getElem l] at h
    exact (Option.some.inj h).symm
  · rw [List.getElem?_eq_none (by rw [List.length_range]; omega)] at h
    cases h
theorem enD_len {ts : List D} : (enD ts).length = ts.length := by unfold enD; rw [List.length_map, List.length_range]
abbrev n_Plan_pairs : List Str := ["self", "found", "behind", "task", "before"]
abbrev t_Plan_pairs (C_Plan : Addr) : DTS := (dSeq (dOwn 1 (dLst dNil))
  (dSeq (dFor (diEn (dFld C_Plan "held_tasks" (dRel (dVar 0)))) (dgTup 2 (dgCons (dName 2) (dgCons (dName 3) dgNil))) (dDrop (dExt 1 (dLc (diSeq (dOp oIx (dVar 3) (dDat (dC (.int 0))))) (dName 4) dYes (dTup (dCons (dRel (dVar 4)) (dCons (dRel (dVar 2)) dNil))) [4]))))
  (dRet (dUn oTuple (dUn oSortP (dVar 1))))))
theorem rd_Plan_pairs {C_Plan : Addr} : ∀ ds kk xx, ds.length = 1 → (fPairs C_Plan) ds kk xx → t_Plan_pairs C_Plan (dEnds kk) (env0 n_Plan_pairs ds) := by
  unfold t_Plan_pairs n_Plan_pairs
  rintro ds kk xx hl h
  match ds, hl, h with
  | [.obj C' ns [.tup ts, o, w]], _, ⟨⟨e1, e2⟩, fs, g, hk⟩ =>
    subst e1 e2
    refine seq_d fun N hN => ?_
    simp_wf
    intro a
    refine hN _ (seq_d fun N2 hN2 => ?_)
    simp only [dFor_eq]
    simp_wf
    rw [lk_t]
    dsimp only
    refine for_in (fun i e => ∃ x2 x3, e = [.dat (.obj C' pNs [.tup ts, o, w]), .own a ((prs 0 (fs.take i)).map prD), x2, x3, .no]) ⟨_, _, rfl⟩ ?_ ?_
    · rintro i d e hd ⟨x2, x3, rfl⟩ N3 hN3
      obtain ⟨t, et, rfl⟩ := enD_get hd
      obtain ⟨f, ef⟩ : ∃ f, fs[i]? = some f := by
        have l := (List.getElem?_eq_some_iff.mp et).1
        rw [g.len] at l
        exact ⟨_, List.getElem?_eq_getElem l⟩
      obtain ⟨dl, dh, e2⟩ := g.at_ i f ef
      rw [et] at e2
      cases e2
      have fl := g.flen f (List.mem_of_getElem? ef)
      have pl : (prs 0 (fs.take i)).length ≤ 25 := by
        have := prs_len (n := 5) (fs := fs.take i) (i := 0) fun x hx => g.flen x (List.mem_of_mem_take hx)
        rw [List.length_take] at this
        have := g.few
        have : 5 * min i fs.length ≤ 5 * 5 := Nat.mul_le_mul_left 5 (by omega)
        omega
      simp_wf
      simp only [dLc_eq]
      simp_wf
      refine lc_map (fun d => .tup [d, .int ((i : Nat) : Int)]) rfl (by rw [List.length_map]; omega) (fun d hd k hk => ?_) ?_
      · obtain ⟨y, hy, rfl⟩ := List.mem_map.mp hd
        unfold LcT
        simp_wf
        exact hk
      · rw [List.map_map]
        simp_wf
        refine ⟨by rw [List.length_map, List.length_map]; omega, ?_⟩
        rw [show List.map prD (prs 0 (List.take i fs)) ++ List.map ((fun d => D.tup [d, D.int ((i : Nat) : Int)]) ∘ D.int) f = List.map prD (prs 0 (List.take (i + 1) fs)) by rw [prs_take ef, List.map_append, List.map_map]; rfl]
        exact hN3 _ ⟨_, _, rfl⟩
    · rintro e ⟨x2, x3, rfl⟩
      refine hN2 _ ?_
      rw [enD_len, g.len, List.take_length]
      simp_wf
      refine ⟨prs 0 fs, rfl, g.prs.1, g.prs.2, fun qs p1 p2 => ?_⟩
      exact hk qs p1 p2
/-! ### with_pair -/
def fWP (C CB CN : Addr) : DF := fun ds k x => match ds with
  | [.obj C' ns [.tup ts, o, w], a, b] => (C' = C ∧ ns = pNs ∧ ts.length ≤ 5 ∧ noObj a = true ∧ noObj b = true) ∧ (isNum ts.length a = false → x (noT CN a)) ∧ (isNum ts.length a = true → isNum ts.length b = false → x (noT CN b)) ∧
    ∀ i j : Int, a = .int i → b = .int j → 0 ≤ i → i < ts.length → 0 ≤ j → j < ts.length → (i = j → x (bad CB .non "ring")) ∧ (i ≠ j → ∃ (ms : List Int) (dl dh : D), ts[j.toNat]? = some (.tup [.tup (ms.map D.int), dl, dh]) ∧ ms.length ≤ 5 ∧
      fWF C CB CN [.obj C' ns [.tup ts, o, w], b, .tup ((sortI (ms.filter (fun y => decide (y ≠ i)) ++ [i])).map D.int)] k x)
  | _ => False
abbrev n_Plan_with_pair : List Str := ["self", "before", "behind", "others", "number"]
abbrev t_Plan_with_pair (C_BadPlan : Addr) (C_NoTask : Addr) (C_Plan : Addr) (xx : Er → Prop) : DTS := (dSeq (dDrop (dDat (dMeth C_Plan "check_number" 1 (fChk C_Plan C_NoTask) xx (dRel (dVar 0)) (dCons (dRel (dVar 1)) dNil))))
  (dSeq (dDrop (dDat (dMeth C_Plan "check_number" 1 (fChk C_Plan C_NoTask) xx (dRel (dVar 0)) (dCons (dRel (dVar 2)) dNil))))
  (dSeq (dIf (dTst (dOp oEq (dVar 1) (dVar 2))) (dRaise2 C_BadPlan "number" "word" xx (dCons (dC .non) (dCons (dC (.str "ring")) dNil))) dNext)
  (dSeq (dSetLc 3 (dLc (diSeq (dOp oIx (dOp oIx (dDat (dFld C_Plan "held_tasks" (dRel (dVar 0)))) (dVar 2)) (dDat (dC (.int 0))))) (dName 4) (dTst (dOp oNe (dVar 4) (dVar 1))) (dRel (dVar 4)) [4]))
  (dRet (dDat (dMeth C_Plan "with_forerunners" 2 (fWF C_Plan C_BadPlan C_NoTask) xx (dRel (dVar 0)) (dCons (dRel (dVar 2)) (dCons (dRel (dUn oTuple (dUn oSorted (dLst (dStar (dVar 3) (dCons (dRel (dVar 1)) dNil)))))) dNil)))))))))
theorem rd_Plan_with_pair {C_BadPlan : Addr} {C_NoTask : Addr} {C_Plan : Addr} : ∀ xx ds kk, ds.length = 3 → (fWP C_Plan C_BadPlan C_NoTask) ds kk xx → t_Plan_with_pair C_BadPlan C_NoTask C_Plan xx (dEnds kk) (env0 n_Plan_with_pair ds) := by
  unfold t_Plan_with_pair n_Plan_with_pair
  intro xx
  rintro ds kk hl h
  match ds, hl, h with
  | [.obj C' ns [.tup ts, o, w], a, b], _, ⟨⟨e1, e2, l5, na, nb⟩, h1, h2, h3⟩ =>
    subst e1 e2
    refine seq_d fun N hN => ?_
    simp_wf
    refine ⟨by decide +kernel, ⟨rfl, rfl, l5, na⟩, fun za => hN _ (seq_d fun N2 hN2 => ?_), h1⟩
    simp_wf
    refine ⟨by decide +kernel, ⟨rfl, rfl, l5, nb⟩, fun zb => hN2 _ (seq_d fun N3 hN3 => if_d fun T U hT hU => ?_), h2 za⟩
    obtain ⟨i, ei, i0, i1⟩ := isNum_int za
    obtain ⟨j, ej, j0, j1⟩ := isNum_int zb
    subst ei ej
    obtain ⟨g1, g2⟩ := h3 i j rfl rfl i0 i1 j0 j1
    simp_wf
    by_cases c : i = j
    · rw [if_pos c]
      refine hT _ ?_
      simp_wf
      exact g1 c
    · rw [if_neg c]
      refine hU _ (hN3 _ (seq_d fun N4 hN4 => ?_))
      obtain ⟨ms, dl, dh, et, l6, g3⟩ := g2 c
      have ea : L2.atI ts j = some (.tup [.tup (ms.map D.int), dl, dh]) := by
        unfold L2.atI ixN
        rw [if_pos j0, if_pos j1]
        exact et
      simp_wf
      simp only [dLc_eq]
      simp_wf
      simp only [lk_t]
      simp_wf
      rw [ea]
      dsimp only
      simp_wf
      refine lc_fil (fun d => match d with | .int y => decide (y ≠ i) | _ => true) rfl (by rw [List.length_map]; omega) (fun d hd k hk => ?_) ?_
      · obtain ⟨y, hy, rfl⟩ := List.mem_map.mp hd
        unfold LcT
        simp_wf
        by_cases c2 : y = i
        · rw [if_neg (by simpa using c2)] at hk
          rw [if_neg (fun z => z c2)]
          exact hk
        · rw [if_pos (by simpa using c2)] at hk
          rw [if_pos c2]
          exact hk
      · rw [List.filter_map]
        simp_wf
        refine hN4 _ ?_
        simp_wf
        have ef : List.filter ((fun d => match d with | D.int y => decide ¬y = i | x => true) ∘ D.int) ms = ms.filter fun y => decide (y ≠ i) := rfl
        have lf := List.length_filter_le (fun y => decide (y ≠ i)) ms
        rw [ef, show (ms.filter fun y => decide (y ≠ i)).map D.int ++ [D.int i] = ((ms.filter fun y => decide (y ≠ i)) ++ [i]).map D.int by rw [List.map_append]; rfl, osrt_n]
        refine ⟨by decide +kernel, by rw [List.length_map, List.length_append, List.length_singleton]; omega, ?_⟩
        simp_wf
        exact g3
/-! ### what a pair more, or less, comes to -/
def iOf : D → Int
  | .int i => i
  | _ => 0
def foD : D → List Int
  | .tup [.tup ds, _, _] => (intsOf ds).getD []
  | _ => []
def loD : D → D
  | .tup [_, l, _] => l
  | _ => .non
def hiD : D → D
  | .tup [_, _, h] => h
  | _ => .non
theorem foD_mk {ms : List Int} {dl dh : D} : foD (.tup [.tup (ms.map D.int), dl, dh]) = ms := by
  show (intsOf (ms.map D.int)).getD [] = ms
  rw [intsOf_map]
  rfl
def newF (t : D) (i : Int) (put : Bool) : List Int := if put then sortI ((foD t).filter (fun y => decide (y ≠ i)) ++ [i]) else (foD t).filter fun y => decide (y ≠ i)
def newT (t : D) (i : Int) (put : Bool) : D := .tup [.tup ((newF t i put).map D.int), loD t, hiD t]
def noPD (a b : D) : D := .lst [.str "no pair", a, b, .lst [.bl true, .bl false, .bl false]]
noncomputable def in7 (ts : List D) (o w : D) (i j : Int) (put : Bool) : D :=
  if put = true then (if i = j then dueE .non (.str "ring") else due5 ts o w (.int j) (newT (ts[j.toNat]?.getD .non) i true))
  else if i ∈ foD (ts[j.toNat]?.getD .non) then due5 ts o w (.int j) (newT (ts[j.toNat]?.getD .non) i false) else noPD (.int i) (.int j)
noncomputable def due7 (ts : List D) (o w a b : D) (put : Bool) : D :=
  if isNum ts.length a = true then (if isNum ts.length b = true then in7 ts o w (iOf a) (iOf b) put else dueN b) else dueN a
def isPut (v : Int) : Bool := decide (v = 0) || decide (v = 2)
noncomputable def fChg (C : Addr) : DF := fun ds k _ => match ds with
  | [.obj C' ns [.tup ts, o, w], a, b, .int v] => (C' = C ∧ ns = pNs ∧ ts.length ≤ 5 ∧ noObj a = true ∧ noObj b = true ∧ o.small = true ∧ w.small = true ∧ 0 ≤ v ∧ v ≤ 3) ∧ (∃ fs, Gr ts fs) ∧ (∀ (i j : Int) (p : Bool), 0 ≤ i → i < ts.length → 0 ≤ j → j < ts.length → (D.tup (ts.set j.toNat (newT (ts[j.toNat]?.getD .non) i p))).small = true) ∧ k (due7 ts o w a b (isPut v))
  | _ => False
theorem isNum_of {m : Int} {i : Int} (h0 : 0 ≤ i) (h1 : i < m) : isNum m (.int i) = true := by
  show (decide (0 ≤ i) && decide (i < m)) = true
  rw [decide_eq_true h0, decide_eq_true h1]
  rfl
theorem due7_a {ts : List D} {o w a b : D} {p : Bool} (h : isNum ts.length a = false) : due7 ts o w a b p = dueN a := by
  unfold due7
  rw [if_neg (by rw [h]; exact Bool.false_ne_true)]
theorem due7_b {ts : List D} {o w a b : D} {p : Bool} (h : isNum ts.length a = true) (h2 : isNum ts.length b = false) : due7 ts o w a b p = dueN b := by
  unfold due7
  rw [if_pos h, if_neg (by rw [h2]; exact Bool.false_ne_true)]
section
variable {ts : List D} {o w : D} {i j : Int} (i0 : 0 ≤ i) (i1 : i < ts.length) (j0 : 0 ≤ j) (j1 : j < ts.length)
include i0 i1 j0 j1
theorem due7_in {p : Bool} : due7 ts o w (.int i) (.int j) p = in7 ts o w i j p := by
  unfold due7
  rw [if_pos (isNum_of i0 i1), if_pos (isNum_of j0 j1)]
  rfl
theorem due7_ring (e : i = j) : due7 ts o w (.int i) (.int j) true = dueE .non (.str "ring") := by
  rw [due7_in i0 i1 j0 j1]
  unfold in7
  rw [if_pos rfl, if_pos e]
theorem due7_put (e : i ≠ j) : due7 ts o w (.int i) (.int j) true = dueP (.tup (ts.set j.toNat (newT (ts[j.toNat]?.getD .non) i true))) o w (planE (.tup (ts.set j.toNat (newT (ts[j.toNat]?.getD .non) i true))) o w) := by
  rw [due7_in i0 i1 j0 j1]
  unfold in7
  rw [if_pos rfl, if_neg e]
  show (if _ then _ else _) = _
  rw [if_pos ⟨j0, j1⟩]
theorem due7_no (e : i ∉ foD (ts[j.toNat]?.getD .non)) : due7 ts o w (.int i) (.int j) false = noPD (.int i) (.int j) := by
  rw [due7_in i0 i1 j0 j1]
  unfold in7
  rw [if_neg Bool.false_ne_true, if_neg e]
theorem due7_part (e : i ∈ foD (ts[j.toNat]?.getD .non)) : due7 ts o w (.int i) (.int j) false = dueP (.tup (ts.set j.toNat (newT (ts[j.toNat]?.getD .non) i false))) o w (planE (.tup (ts.set j.toNat (newT (ts[j.toNat]?.getD .non) i false))) o w) := by
  rw [due7_in i0 i1 j0 j1]
  unfold in7
  rw [if_neg Bool.false_ne_true, if_pos e]
  show (if _ then _ else _) = _
  rw [if_pos ⟨j0, j1⟩]
end
abbrev n__law_changed : List Str := ["_law_plan", "_law_first", "_law_second", "_law_way", "_law_found", "_law_error", "_law_kinds"]
abbrev t__law_changed (C_Plan : Addr) (C_BadPlan : Addr) (C_NoTask : Addr) (C_NoPair : Addr) : DTS := (dSeq (dSet 4 (dC .non))
  (dSeq (dTry (fun xr => (dSeq (dIf (dTst (dOp oEq (dVar 3) (dDat (dC (.int 0))))) (dSet 4 (dMethT C_Plan "with_pair" 2 (fWP C_Plan C_BadPlan C_NoTask) xr (dRel (dVar 0)) (dCons (dRel (dVar 1)) (dCons (dRel (dVar 2)) dNil)))) (dIf (dTst (dOp oEq (dVar 3) (dDat (dC (.int 1))))) (dSet 4 (dMethT C_Plan "without_pair" 2 (fWoP C_Plan C_BadPlan C_NoTask C_NoPair) xr (dRel (dVar 0)) (dCons (dRel (dVar 1)) (dCons (dRel (dVar 2)) dNil)))) (dIf (dTst (dOp oEq (dVar 3) (dDat (dC (.int 2))))) (dSet 4 (dMethK C_Plan "with_pair" (fWP C_Plan C_BadPlan C_NoTask) xr (dRel (dVar 0)) (dCons (dRel (dVar 2)) (dCons (dRel (dVar 1)) dNil)))) (dSet 4 (dMethK C_Plan "without_pair" (fWoP C_Plan C_BadPlan C_NoTask C_NoPair) xr (dRel (dVar 0)) (dCons (dRel (dVar 2)) (dCons (dRel (dVar 1)) dNil)))))))
  (dSet 4 (dCall 1 (fTold C_Plan) (fun _ => False) (dCons (dRel (dVar 4)) dNil))))) (⟨[(C_BadPlan, true), (C_NoTask, false), (C_NoPair, false)], some 5, fun C a dd => (dSet 4 (dCallE 5 a dd eTold))⟩ :: (⟨[(C_BadPlan, false), (C_NoTask, true), (C_NoPair, false)], some 5, fun C a dd => (dSet 4 (dCallE 5 a dd eNone))⟩ :: (⟨[(C_BadPlan, false), (C_NoTask, false), (C_NoPair, true)], some 5, fun C a dd => (dSeq (dSet 6 (dRel (dLst (dCons (dIsX 5 a dd true) (dCons (dIsX 5 a dd false) (dCons (dIsX 5 a dd false) dNil))))))
  (dSet 4 (dRel (dLst (dCons (dC (.str "no pair")) (dCons (dXf 5 a dd "before") (dCons (dXf 5 a dd "behind") (dCons (dRel (dVar 6)) dNil))))))))⟩ :: []))))
  (dRet (dVar 4))))
theorem rd__law_changed {C_Plan : Addr} {C_BadPlan : Addr} {C_NoTask : Addr} {C_NoPair : Addr} : ∀ ds kk xx, ds.length = 4 → (fChg C_Plan) ds kk xx → t__law_changed C_Plan C_BadPlan C_NoTask C_NoPair (dEnds kk) (env0 n__law_changed ds) := by
  unfold t__law_changed n__law_changed
  rintro ds kk xx hl h
  match ds, hl, h with
  | [.obj C' ns [.tup ts, o, w], a, b, .int v], _, ⟨⟨e1, e2, l5, na, nb, so, sw, v0, v3⟩, ⟨fs, g⟩, sm, hk⟩ =>
    subst e1 e2
    refine seq_d fun N hN => ?_
    simp_wf
    refine hN _ (seq_d fun N2 hN2 => ?_)
    simp_wf
    have fin : ∀ q x6, q = due7 ts o w a b (isPut v) → N2 [.dat (.obj C' pNs [.tup ts, o, w]), .dat a, .dat b, .dat (.int v), .dat q, .no, x6] := fun q x6 e => by
      refine hN2 _ ?_
      simp_wf
      rw [e]
      exact hk
    generalize hX : catch_ _ _ = X
    have xB : ∀ y x, dueE y (.str x) = due7 ts o w a b (isPut v) → X (bad C_BadPlan y x) [.dat (.obj C' pNs [.tup ts, o, w]), .dat a, .dat b, .dat (.int v), .dat .non, .no, .no] := fun y x e => by
      subst hX
      refine ⟨true, List.mem_cons_self, fun _ a' dd => ?_, fun z => nomatch z⟩
      simp only [Hn.ends, Hn.env, bad]
      simp_wf
      exact ⟨rfl, fin _ _ e⟩
    have xN : ∀ y, dueN y = due7 ts o w a b (isPut v) → X (noT C_NoTask y) [.dat (.obj C' pNs [.tup ts, o, w]), .dat a, .dat b, .dat (.int v), .dat .non, .no, .no] := fun y e => by
      subst hX
      refine ⟨false, List.mem_cons_of_mem _ List.mem_cons_self, (fun z => nomatch z), fun _ => ⟨true, List.mem_cons_of_mem _ List.mem_cons_self, fun _ a' dd => ?_, fun z => nomatch z⟩⟩
      simp only [Hn.ends, Hn.env, noT]
      simp_wf
      exact ⟨rfl, fin _ _ e⟩
    have xP : noPD a b = due7 ts o w a b (isPut v) → X (noP C_NoPair a b) [.dat (.obj C' pNs [.tup ts, o, w]), .dat a, .dat b, .dat (.int v), .dat .non, .no, .no] := fun e => by
      subst hX
      refine ⟨false, List.mem_cons_of_mem _ (List.mem_cons_of_mem _ List.mem_cons_self), (fun z => nomatch z), fun _ => ⟨false, List.mem_cons_of_mem _ (List.mem_cons_of_mem _ List.mem_cons_self), (fun z => nomatch z), fun _ => ⟨true, List.mem_cons_of_mem _ (List.mem_cons_of_mem _ List.mem_cons_self), fun _ a' dd => ?_, fun z => nomatch z⟩⟩⟩
      simp only [Hn.ends, Hn.env, noP]
      refine seq_d fun N3 hN3 => ?_
      simp_wf
      refine hN3 _ ?_
      simp_wf
      exact fin _ _ e
    clear hX
    have put : isPut v = true → ∀ K : D → Prop, (∀ t, D.lst [t, o, w] = due7 ts o w a b (isPut v) → K (.obj C' pNs [t, o, w])) → fWP C' C_BadPlan C_NoTask [.obj C' pNs [.tup ts, o, w], a, b] K (fun e => X e [.dat (.obj C' pNs [.tup ts, o, w]), .dat a, .dat b, .dat (.int v), .dat .non, .no, .no]) := fun hp K hK => by
      rw [hp] at xB xN xP hK
      refine ⟨⟨rfl, rfl, l5, na, nb⟩, fun z => xN a (due7_a z).symm, fun za zb => xN b (due7_b za zb).symm, fun i j ea eb i0 i1 j0 j1 => ?_⟩
      subst ea eb
      refine ⟨fun c => xB .non _ (due7_ring i0 i1 j0 j1 c).symm, fun c => ?_⟩
      obtain ⟨f, _, _, ef, fm, _⟩ := g.get j0 (by rw [← g.len]; exact j1)
      obtain ⟨dl, dh, et⟩ := g.at_ _ _ ef
      have eN : newT (ts[j.toNat]?.getD .non) i true = .tup [.tup ((sortI (f.filter (fun y => decide (y ≠ i)) ++ [i])).map D.int), dl, dh] := by
        rw [et, Option.getD_some]
        unfold newT newF
        rw [foD_mk]
        rfl
      refine ⟨f, dl, dh, et, g.flen f fm, ⟨rfl, rfl, l5, so, sw, j0, j1⟩, _, dl, dh, et, ⟨rfl, rfl, l5, rfl, so, sw⟩, fun z => (by rw [isNum_of j0 j1] at z; cases z), fun j' e _ _ => ?_⟩
      cases e
      have eD := due7_put (o := o) (w := w) i0 i1 j0 j1 c
      rw [← eN]
      refine ⟨sm i j true i0 i1 j0 j1, fun z => hK _ ?_, fun y x z => xB y x ?_⟩
      · rw [eD, z]; rfl
      · rw [eD, z]; rfl
    have part : isPut v = false → ∀ K : D → Prop, (∀ t, D.lst [t, o, w] = due7 ts o w a b (isPut v) → K (.obj C' pNs [t, o, w])) → fWoP C' C_BadPlan C_NoTask C_NoPair [.obj C' pNs [.tup ts, o, w], a, b] K (fun e => X e [.dat (.obj C' pNs [.tup ts, o, w]), .dat a, .dat b, .dat (.int v), .dat .non, .no, .no]) := fun hp K hK => by
      rw [hp] at xB xN xP hK
      refine ⟨⟨rfl, rfl, l5, na, nb⟩, fun z => xN a (due7_a z).symm, fun za zb => xN b (due7_b za zb).symm, fun i j ea eb i0 i1 j0 j1 => ?_⟩
      subst ea eb
      obtain ⟨f, _, _, ef, fm, _⟩ := g.get j0 (by rw [← g.len]; exact j1)
      obtain ⟨dl, dh, et⟩ := g.at_ _ _ ef
      have eF : foD (ts[j.toNat]?.getD .non) = f := by rw [et, Option.getD_some, foD_mk]
      have eN : newT (ts[j.toNat]?.getD .non) i false = .tup [.tup ((f.filter (fun y => decide (y ≠ i))).map D.int), dl, dh] := by
        unfold newT newF
        rw [eF, et, Option.getD_some]
        rfl
      refine ⟨f, dl, dh, et, g.flen f fm, fun c => xP (due7_no i0 i1 j0 j1 (by rw [eF]; exact c)).symm, fun c => ⟨⟨rfl, rfl, l5, so, sw, j0, j1⟩, _, dl, dh, et, ⟨rfl, rfl, l5, rfl, so, sw⟩, fun z => (by rw [isNum_of j0 j1] at z; cases z), fun j' e _ _ => ?_⟩⟩
      cases e
      have eD := due7_part (o := o) (w := w) i0 i1 j0 j1 (by rw [eF]; exact c)
      rw [← eN]
      refine ⟨sm i j false i0 i1 j0 j1, fun z => hK _ ?_, fun y x z => xB y x ?_⟩
      · rw [eD, z]; rfl
      · rw [eD, z]; rfl
    refine seq_d fun N3 hN3 => if_d fun T U hT hU => ?_
    simp_wf
    have rest : ∀ t, D.lst [t, o, w] = due7 ts o w a b (isPut v) → N3 [.dat (.obj C' pNs [.tup ts, o, w]), .dat a, .dat b, .dat (.int v), .dat (.obj C' pNs [t, o, w]), .no, .no] := fun t e => by
      refine hN3 _ ?_
      simp_wf
      exact ⟨⟨rfl, rfl⟩, fin _ _ e⟩
    by_cases c0 : v = 0
    · rw [if_pos c0]
      refine hT _ ?_
      simp_wf
      exact ⟨by decide +kernel, put (by rw [c0]; rfl) _ rest⟩
    · rw [if_neg c0]
      refine hU _ (if_d fun T2 U2 hT2 hU2 => ?_)
      simp_wf
      by_cases c1 : v = 1
      · rw [if_pos c1]
        refine hT2 _ ?_
        simp_wf
        exact ⟨by decide +kernel, part (by rw [c1]; rfl) _ rest⟩
      · rw [if_neg c1]
        refine hU2 _ (if_d fun T3 U3 hT3 hU3 => ?_)
        simp_wf
        by_cases c2 : v = 2
        · rw [if_pos c2]
          refine hT3 _ ?_
          simp_wf
          exact ⟨by decide +kernel, put (by rw [c2]; rfl) _ rest⟩
        · rw [if_neg c2]
          refine hU3 _ ?_
          simp_wf
          exact ⟨by decide +kernel, part (by unfold isPut; rw [decide_eq_false c0, decide_eq_false c2]; rfl) _ rest⟩
/-! ### rings by a pair more -/
theorem Rch.tr {fs : List (List Int)} {a b c : Int} (h : Rch fs a b) (g : Rch fs b c) : Rch fs a c := by
  induction g with
  | one e n0 m => exact .more h e n0 m
  | more r e x0 m ih => exact .more ih e x0 m
theorem set_get {fs : List (List Int)} {j n : Nat} {f f' : List Int} (h : (fs.set j f')[n]? = some f) : (n = j ∧ f = f' ∧ j < fs.length) ∨ (n ≠ j ∧ fs[n]? = some f) := by
  by_cases c : j = n
  · subst c
    by_cases l : j < fs.length
    · rw [List.getElem?_set_self l] at h
      exact .inl ⟨rfl, (Option.some.inj h).symm, l⟩
    · rw [List.getElem?_eq_none (by rw [List.length_set]; omega)] at h
      cases h
  · rw [List.getElem?_set_ne c] at h
    exact .inr ⟨fun z => c z.symm, h⟩
section
variable {fs : List (List Int)} {i j : Int} {f f' : List Int} (j0 : 0 ≤ j) (ef : fs[j.toNat]? = some f)
include j0 ef
theorem Rch.less (sub : ∀ x ∈ f', x ∈ f) {a b : Int} (h : Rch (fs.set j.toNat f') a b) : Rch fs a b := by
  have up : ∀ {n x : Int} {g : List Int}, (fs.set j.toNat f')[n.toNat]? = some g → x ∈ g → ∃ g', fs[n.toNat]? = some g' ∧ x ∈ g' := fun {n x g} hg hx => by
    rcases set_get hg with ⟨e1, e2, _⟩ | ⟨_, e⟩
    · subst e2
      exact ⟨f, by rw [e1]; exact ef, sub x hx⟩
    · exact ⟨g, e, hx⟩
  induction h with
  | one e n0 m => obtain ⟨g', e', m'⟩ := up e m; exact .one e' n0 m'
  | more r e x0 m ih => obtain ⟨g', e', m'⟩ := up e m; exact .more ih e' x0 m'
theorem Rch.put (mem : ∀ x, x ∈ f' ↔ x ∈ f ∨ x = i) {a b : Int} (h : Rch (fs.set j.toNat f') a b) : Rch fs a b ∨ ((a = j ∨ Rch fs a j) ∧ (b = i ∨ Rch fs i b)) := by
  have up : ∀ {n x : Int} {g : List Int}, 0 ≤ n → (fs.set j.toNat f')[n.toNat]? = some g → x ∈ g → (∃ g', fs[n.toNat]? = some g' ∧ x ∈ g') ∨ (n = j ∧ x = i) := fun {n x g} n0 hg hx => by
    rcases set_get hg with ⟨e1, e2, _⟩ | ⟨_, e⟩
    · subst e2
      rcases (mem x).mp hx with q | q
      · exact .inl ⟨f, by rw [e1]; exact ef, q⟩
      · exact .inr ⟨by omega, q⟩
    · exact .inl ⟨g, e, hx⟩
  induction h with
  | one e n0 m =>
    rcases up n0 e m with ⟨g', e', m'⟩ | ⟨q1, q2⟩
    · exact .inl (.one e' n0 m')
    · exact .inr ⟨.inl q1, .inl q2⟩
  | more r e x0 m ih =>
    rcases up x0 e m with ⟨g', e', m'⟩ | ⟨q1, q2⟩
    · rcases ih with ih | ⟨h1, h2⟩
      · exact .inl (.more ih e' x0 m')
      · refine .inr ⟨h1, .inr ?_⟩
        rcases h2 with h2 | h2
        · rw [h2] at e' x0; exact .one e' x0 m'
        · exact .more h2 e' x0 m'
    · rw [q1] at ih
      refine .inr ⟨?_, .inl q2⟩
      rcases ih with ih | ⟨h1, _⟩
      · exact .inr ih
      · exact h1
theorem Rch.up (mem : ∀ x, x ∈ f' ↔ x ∈ f ∨ x = i) {a b : Int} (h : Rch fs a b) : Rch (fs.set j.toNat f') a b := by
  have lj : j.toNat < fs.length := (List.getElem?_eq_some_iff.mp ef).1
  have up : ∀ {n x : Int} {g : List Int}, fs[n.toNat]? = some g → x ∈ g → ∃ g', (fs.set j.toNat f')[n.toNat]? = some g' ∧ x ∈ g' := fun {n x g} hg hx => by
    by_cases c : j.toNat = n.toNat
    · rw [← c, ef] at hg
      cases hg
      exact ⟨f', by rw [← c, List.getElem?_set_self lj], (mem x).mpr (.inl hx)⟩
    · exact ⟨g, by rw [List.getElem?_set_ne c]; exact hg, hx⟩
  induction h with
  | one e n0 m => obtain ⟨g', e', m'⟩ := up e m; exact .one e' n0 m'
  | more r e x0 m ih => obtain ⟨g', e', m'⟩ := up e m; exact .more ih e' x0 m'
end
section
variable {ts : List D} {fs : List (List Int)} {j : Int} {f f' : List Int} {dl dh : D} (g : Gr ts fs) (j0 : 0 ≤ j) (ef : fs[j.toNat]? = some f)
include g j0 ef
theorem Gr.setG (val : ∀ x ∈ f', 0 ≤ x ∧ x < (fs.length : Int)) (nd : f'.Nodup) : Gr (ts.set j.toNat (.tup [.tup (f'.map D.int), dl, dh])) (fs.set j.toNat f') := by
  have lj : j.toNat < fs.length := (List.getElem?_eq_some_iff.mp ef).1
  have me : ∀ x ∈ fs.set j.toNat f', x = f' ∨ x ∈ fs := fun x hx => (List.mem_or_eq_of_mem_set hx).symm
  refine ⟨by rw [List.length_set, List.length_set]; exact g.len, fun n x hx => ?_, fun x hx y hy => ?_, fun x hx => ?_, by rw [List.length_set]; exact g.few⟩
  · rcases set_get hx with ⟨e1, e2, _⟩ | ⟨e1, e2⟩
    · subst e1 e2
      exact ⟨dl, dh, by rw [List.getElem?_set_self (by rw [g.len]; exact lj)]⟩
    · obtain ⟨l, h, q⟩ := g.at_ n x e2
      exact ⟨l, h, by rw [List.getElem?_set_ne (fun z => e1 z.symm)]; exact q⟩
  · rw [List.length_set]
    rcases me x hx with rfl | hx
    · exact val y hy
    · exact g.val x hx y hy
  · rcases me x hx with rfl | hx
    · exact nd
    · exact g.nd x hx
theorem ring_put {i : Int} (nr : ¬ Ring ts) (i0 : 0 ≤ i) (i1 : i < (fs.length : Int)) (ij : i ≠ j) (mem : ∀ x, x ∈ f' ↔ x ∈ f ∨ x = i) (nd : f'.Nodup) : Ring (ts.set j.toNat (.tup [.tup (f'.map D.int), dl, dh])) ↔ Rch fs i j := by
  have lj : j.toNat < fs.length := (List.getElem?_eq_some_iff.mp ef).1
  have gv : ∀ x ∈ f', 0 ≤ x ∧ x < (fs.length : Int) := fun x hx => by
    rcases (mem x).mp hx with q | q
    · exact g.val f (List.mem_of_getElem? ef) x q
    · rw [q]; exact ⟨i0, i1⟩
  have g' := g.setG (dl := dl) (dh := dh) j0 ef gv nd
  constructor
  · rintro ⟨fs2, g2, n, n0, n1, r⟩
    obtain rfl := g2.one g'
    rcases r.put j0 ef mem with r | ⟨h1, h2⟩
    · exact absurd ⟨fs, g, n, n0, by rw [List.length_set] at n1; exact n1, r⟩ nr
    · rcases h1 with rfl | h1
      · rcases h2 with h2 | h2
        · exact absurd h2.symm ij
        · exact h2
      · rcases h2 with rfl | h2
        · exact h1
        · exact h2.tr h1
  · intro r
    have r1 := r.up j0 ef mem
    have r2 : Rch (fs.set j.toNat f') j i := .one (f := f') (List.getElem?_set_self lj) j0 ((mem i).mpr (.inr rfl))
    exact ⟨_, g', j, j0, by rw [List.length_set]; omega, r2.tr r1⟩
theorem ring_less (nr : ¬ Ring ts) (sub : ∀ x ∈ f', x ∈ f) (nd : f'.Nodup) : ¬ Ring (ts.set j.toNat (.tup [.tup (f'.map D.int), dl, dh])) := by
  have g' := g.setG (dl := dl) (dh := dh) j0 ef (fun x hx => g.val f (List.mem_of_getElem? ef) x (sub x hx)) nd
  rintro ⟨fs2, g2, n, n0, n1, r⟩
  obtain rfl := g2.one g'
  exact nr ⟨fs, g, n, n0, by rw [List.length_set] at n1; exact n1, r.less j0 ef sub⟩
end
theorem asc_one {xs ys : List Int} (h1 : xs.Pairwise (· < ·)) (h2 : ys.Pairwise (· < ·)) (m : ∀ x, x ∈ xs ↔ x ∈ ys) : xs = ys := by
  have n1 : xs.Nodup := h1.imp fun h => by omega
  have n2 : ys.Nodup := h2.imp fun h => by omega
  exact ((List.perm_ext_iff_of_nodup n1 n2).mpr m).eq_of_pairwise (le := (· < ·)) (fun a b _ _ h1 h2 => by omega) h1 h2
/-- the numbers of f and i, ascending -/
theorem newF_put {f : List Int} {i : Int} (pw : f.Pairwise (· < ·)) : (sortI (f.filter (fun y => decide (y ≠ i)) ++ [i])).Pairwise (· < ·) ∧ ∀ x, x ∈ sortI (f.filter (fun y => decide (y ≠ i)) ++ [i]) ↔ x ∈ f ∨ x = i := by
  have nd : (f.filter (fun y => decide (y ≠ i)) ++ [i]).Nodup := by
    refine List.nodup_append.mpr ⟨(pw.imp fun h => by omega : f.Nodup).filter _, by simp, fun a ha b hb => ?_⟩
    rw [List.mem_singleton.mp hb]
    exact of_decide_eq_true (List.mem_filter.mp ha).2
  refine ⟨sortI_pw nd, fun x => ?_⟩
  have pm : (sortI (f.filter (fun y => decide (y ≠ i)) ++ [i])).Perm (f.filter (fun y => decide (y ≠ i)) ++ [i]) := List.mergeSort_perm _ _
  rw [pm.mem_iff, List.mem_append, List.mem_filter, List.mem_singleton]
  constructor
  · rintro (⟨h, _⟩ | h)
    · exact .inl h
    · exact .inr h
  · rintro (h | h)
    · by_cases c : x = i
      · exact .inr c
      · exact .inl ⟨h, decide_eq_true c⟩
    · exact .inr h
theorem newF_part {f : List Int} {i : Int} (pw : f.Pairwise (· < ·)) : (f.filter (fun y => decide (y ≠ i))).Pairwise (· < ·) ∧ ∀ x ∈ f.filter (fun y => decide (y ≠ i)), x ∈ f := ⟨pw.filter _, fun x hx => (List.mem_filter.mp hx).1⟩
theorem gr_self {j m : Int} {ns : List Int} {dl dh : D} (h : wordD j m (.tup [.tup (ns.map D.int), dl, dh]) = none) : j ∉ ns := fun z => by
  have e : wordD j m (.tup [.tup (ns.map D.int), dl, dh]) = if (ascD m (.tup (ns.map D.int)) && !hasD j (.tup (ns.map D.int))) = true then (if isLow dl = true then (if (isFD dh && !lessD dh dl) = true then none else some ("high" : Str)) else some ("low" : Str)) else some ("forerunners" : Str) := rfl
  have a3 : hasD j (.tup (ns.map D.int)) = true := by
    show inD (.int j) (ns.map D.int) = true
    rw [inD_ints]
    exact decide_eq_true z
  rw [e, a3, Bool.not_true, Bool.and_false, if_neg Bool.false_ne_true] at h
  cases h
theorem word_fo {j m : Int} {ns ms : List Int} {dl dh : D} (h : wordD j m (.tup [.tup (ns.map D.int), dl, dh]) = none) (pw : ms.Pairwise (· < ·)) (hv : ∀ x ∈ ms, 0 ≤ x ∧ x < m) (nj : j ∉ ms) : wordD j m (.tup [.tup (ms.map D.int), dl, dh]) = none := by
  have e : ∀ ks : List Int, wordD j m (.tup [.tup (ks.map D.int), dl, dh]) = if (ascD m (.tup (ks.map D.int)) && !hasD j (.tup (ks.map D.int))) = true then (if isLow dl = true then (if (isFD dh && !lessD dh dl) = true then none else some ("high" : Str)) else some ("low" : Str)) else some ("forerunners" : Str) := fun _ => rfl
  have a1 : (ms.map D.int).all (isNum m) = true := by
    rw [List.all_map, List.all_eq_true]
    intro x hx
    have := hv x hx
    exact isNum_of this.1 this.2
  have a2 : ascD m (.tup (ms.map D.int)) = true := by
    show ((ms.map D.int).all (isNum m) && ascI ((intsOf (ms.map D.int)).getD [])) = true
    rw [a1, intsOf_map, Option.getD_some, pw_asc pw]
    rfl
  have a3 : hasD j (.tup (ms.map D.int)) = false := by
    show inD (.int j) (ms.map D.int) = false
    rw [inD_ints]
    exact decide_eq_false nj
  rw [e] at h ⊢
  by_cases c : (ascD m (.tup (ns.map D.int)) && !hasD j (.tup (ns.map D.int))) = true
  · rw [if_pos c] at h
    rw [a2, a3, if_pos (show (true && !false) = true from rfl)]
    exact h
  · rw [if_neg c] at h
    cases h
section
variable {ts : List D} {o w : D} {i j : Int} (i0 : 0 ≤ i) (i1 : i < ts.length) (j0 : 0 ≤ j) (j1 : j < ts.length)
include i0 i1 j0 j1
theorem due7_put5 (e : i ≠ j) : due7 ts o w (.int i) (.int j) true = due5 ts o w (.int j) (newT (ts[j.toNat]?.getD .non) i true) := by
  rw [due7_in i0 i1 j0 j1]
  unfold in7
  rw [if_pos rfl, if_neg e]
theorem due7_part5 (e : i ∈ foD (ts[j.toNat]?.getD .non)) : due7 ts o w (.int i) (.int j) false = due5 ts o w (.int j) (newT (ts[j.toNat]?.getD .non) i false) := by
  rw [due7_in i0 i1 j0 j1]
  unfold in7
  rw [if_neg Bool.false_ne_true, if_pos e]
end
def fDue7 : DF := fun ds k _ => match ds with
  | [.tup ts, o, .int w, a, b, .bl p] => (∃ m, (1 ≤ m ∧ m ≤ 5) ∧ TasksD m ts ∧ OrdD m o ∧ 1 ≤ w ∧ w ≤ 3) ∧ (noObj a = true ∧ noObj b = true) ∧ k (due7 ts o (.int w) a b p)
  | _ => False
def fSomeP : DF := fun ds k _ => match ds with
  | [.tup ts] => (1 ≤ ts.length ∧ ts.length ≤ 5) ∧ ∀ L : List D, L.length ≤ 31 → (∀ d ∈ L, ∃ a b, d = .tup [a, b] ∧ Fit 131 300 6 a ∧ Fit 131 300 6 b) → k (.lst L)
  | _ => False
abbrev n__law_due_k07 : List Str := ["_law_tasks_here", "_law_order", "_law_workers", "_law_first", "_law_second", "_law_is_put", "_law_number", "_law_ahead", "_law_low", "_law_high", "_law_left", "_law_task", "_law_one_here"]
abbrev t__law_due_k07 : DTS := (dSeq (dFor (diSeq (dLst (dCons (dRel (dVar 3)) (dCons (dRel (dVar 4)) dNil)))) (dName 6) (dIf (dNot (dTst (dDat (dCall 2 fIsNum (fun _ => False) (dCons (dRel (dVar 6)) (dCons (dRel (dUn oLen (dVar 0))) dNil)))))) (dRet (dLst (dCons (dC (.str "none")) (dCons (dRel (dVar 6)) (dCons (dC (.bl true)) (dCons (dC (.bl false)) dNil)))))) dNext))
  (dSeq (dAsg (dRel (dOp oIx (dVar 0) (dVar 4))) (dgTup 3 (dgCons (dName 7) (dgCons (dName 8) (dgCons (dName 9) dgNil)))))
  (dSeq (dIf (dTst (dVar 5)) (dSeq (dSet 11 (dTup (dCons (dRel (dUn oTuple (dUn oSSet (dOp oAdd (dVar 7) (dDat (dTup (dCons (dRel (dVar 3)) dNil))))))) (dCons (dRel (dVar 8)) (dCons (dRel (dVar 9)) dNil)))))
  (dSeq (dIf (dOr (dTst (dOp oEq (dVar 3) (dVar 4))) (dTst (dOp (oIn false) (dVar 4) (dDat (dCall 2 fAhead (fun _ => False) (dCons (dRel (dVar 0)) (dCons (dRel (dVar 3)) dNil))))))) (dRet (dNew [(.str "bad"), .non, (.str "ring"), (.bl true), (.bl false)])) dNext)
  (dRet (dLst (dCons (dCall 3 fWith (fun _ => False) (dCons (dRel (dVar 0)) (dCons (dRel (dVar 4)) (dCons (dRel (dVar 11)) dNil)))) (dCons (dRel (dVar 1)) (dCons (dRel (dVar 2)) dNil))))))) dNext)
  (dSeq (dIf (dTst (dOp (oIn true) (dVar 3) (dVar 7))) (dRet (dLst (dCons (dC (.str "no pair")) (dCons (dRel (dVar 3)) (dCons (dRel (dVar 4)) (dCons (dRel (dNew [(.bl true), (.bl false), (.bl false)])) dNil)))))) dNext)
  (dSeq (dSet 10 (dRel (dUn oTuple (dLc (diSeq (dVar 7)) (dName 12) (dTst (dOp oNe (dVar 12) (dVar 3))) (dRel (dVar 12)) [12]))))
  (dRet (dLst (dCons (dCall 3 fWith (fun _ => False) (dCons (dRel (dVar 0)) (dCons (dRel (dVar 4)) (dCons (dTup (dCons (dRel (dVar 10)) (dCons (dRel (dVar 8)) (dCons (dRel (dVar 9)) dNil)))) dNil)))) (dCons (dRel (dVar 1)) (dCons (dRel (dVar 2)) dNil))))))))))
theorem rd__law_due_k07 : ∀ ds kk xx, ds.length = 6 → fDue7 ds kk xx → t__law_due_k07 (dEnds kk) (env0 n__law_due_k07 ds) := by
  unfold t__law_due_k07 n__law_due_k07
  rintro ds kk xx hl h
  match ds, hl, h with
  | [.tup ts, o, .int w, a, b, .bl p], _, ⟨⟨m, ⟨m1, m5⟩, hts, ho, w1, w3⟩, ⟨na, nb⟩, hk⟩ =>
    have lt : ts.length = m := hts.1
    refine seq_d fun N hN => ?_
    simp only [dFor_eq]
    simp_wf
    refine for_in (fun i e => (∃ x6, e = [.dat (.tup ts), .dat o, .dat (.int w), .dat a, .dat b, .dat (.bl p), x6, .no, .no, .no, .no, .no, .no]) ∧ (1 ≤ i → isNum ts.length a = true) ∧ (2 ≤ i → isNum ts.length b = true)) ⟨⟨_, rfl⟩, fun z => by omega, fun z => by omega⟩ ?_ ?_
    · rintro i d e hd ⟨⟨x6, rfl⟩, h1, h2⟩ N2 hN2
      have hd' : (i = 0 ∧ d = a) ∨ (i = 1 ∧ d = b) := by
        match i, hd with
        | 0, hd => cases hd; exact .inl ⟨rfl, rfl⟩
        | 1, hd => cases hd; exact .inr ⟨rfl, rfl⟩
      simp_wf
      refine if_d fun T U hT hU => ?_
      simp_wf
      refine ⟨by rcases hd' with ⟨_, rfl⟩ | ⟨_, rfl⟩ <;> assumption, ?_⟩
      cases c : isNum ts.length d with
      | false =>
        simp_wf
        refine hT _ ?_
        simp_wf
        rcases hd' with ⟨e0, rfl⟩ | ⟨e1, rfl⟩
        · rw [due7_a c] at hk; exact hk
        · rw [due7_b (h1 (by omega)) c] at hk; exact hk
      | true =>
        simp_wf
        refine hU _ ?_
        simp_wf
        refine hN2 _ ⟨⟨_, rfl⟩, fun _ => ?_, fun _ => ?_⟩
        · rcases hd' with ⟨e0, rfl⟩ | ⟨e1, rfl⟩
          · exact c
          · exact h1 (by omega)
        · rcases hd' with ⟨e0, rfl⟩ | ⟨e1, rfl⟩
          · omega
          · exact c
    · rintro e ⟨⟨x6, rfl⟩, h1, h2⟩
      obtain ⟨i, rfl, i0, i1⟩ := isNum_int (h1 (Nat.le_succ 1))
      obtain ⟨j, rfl, j0, j1⟩ := isNum_int (h2 (Nat.le_refl 2))
      obtain ⟨fs, g⟩ := gr_of (by omega) hts.first
      obtain ⟨f, _, _, ef, fm, _⟩ := g.get j0 (by rw [← g.len]; exact j1)
      obtain ⟨dl, dh, et⟩ := g.at_ _ _ ef
      have ea : L2.atI ts j = some (.tup [.tup (f.map D.int), dl, dh]) := by
        unfold L2.atI ixN
        rw [if_pos j0, if_pos j1]
        exact et
      have fl := g.flen f fm
      obtain ⟨line, pm, hall⟩ := hts.2
      have wo : wordD j (ts.length) (.tup [.tup (f.map D.int), dl, dh]) = none := by
        have := (hall _ _ et).word pm
        rw [show ((j.toNat : Nat) : Int) = j by omega] at this
        rw [lt]
        exact this
      have pw : f.Pairwise (· < ·) := by
        obtain ⟨ns, p', q', e, pw, _⟩ := (hall _ _ et).ex
        injection e with e
        injection e with e _
        injection e with e
        rw [ints_inj e]
        exact pw
      refine hN _ (seq_d fun N2 hN2 => ?_)
      simp_wf
      rw [ea]
      dsimp only
      simp_wf
      refine hN2 _ (seq_d fun N3 hN3 => if_d fun T U hT hU => ?_)
      simp_wf
      cases p with
      | true =>
        simp_wf
        refine hT _ (seq_d fun N4 hN4 => ?_)
        simp_wf
        refine ⟨by rw [List.length_map]; omega, f ++ [i], by rw [List.map_append]; rfl, by rw [List.length_append, List.length_singleton]; omega, fun ms pm2 mm => ?_⟩
        have nf := newF_put (i := i) pw
        obtain rfl : ms = sortI (f.filter (fun y => decide (y ≠ i)) ++ [i]) := asc_one pm2 nf.1 fun x => by
          rw [mm, nf.2, List.mem_append, List.mem_singleton]
        refine hN4 _ (seq_d fun N5 hN5 => if_d fun T2 U2 hT2 hU2 => ?_)
        simp_wf
        by_cases c : i = j
        · rw [if_pos c]
          refine hT2 _ ?_
          simp_wf
          rw [due7_ring i0 i1 j0 j1 c] at hk
          exact hk
        · rw [if_neg c]
          have gl : (i : Int) < (fs.length : Int) := by rw [← g.len]; exact i1
          refine ⟨fs, g, ⟨i0, gl⟩, fun rs l6 hr => ?_⟩
          simp_wf
          refine ⟨⟨rfl, flat_ints⟩, ?_⟩
          rw [inD_ints]
          have eN : newT (ts[j.toNat]?.getD .non) i true = .tup [.tup ((sortI (f.filter (fun y => decide (y ≠ i)) ++ [i])).map D.int), dl, dh] := by
            rw [et, Option.getD_some]
            unfold newT newF
            rw [foD_mk]
            rfl
          have fv : ∀ x ∈ sortI (f.filter (fun y => decide (y ≠ i)) ++ [i]), 0 ≤ x ∧ x < (ts.length : Int) := fun x hx => by
            rcases (nf.2 x).mp hx with q | q
            · rw [g.len]; exact g.val f fm x q
            · rw [q]; exact ⟨i0, i1⟩
          have nj : j ∉ f := fun z => by
            have := gr_self wo
            exact this z
          have wn := word_fo wo nf.1 fv fun z => by
            rcases (nf.2 j).mp z with q | q
            · exact nj q
            · exact c q.symm
          have rg := ring_put (dl := dl) (dh := dh) g j0 ef hts.noring i0 gl c nf.2 (nf.1.imp fun h => by omega)
          rw [due7_put5 i0 i1 j0 j1 c, eN] at hk
          by_cases c2 : j ∈ rs
          · rw [decide_eq_true c2]
            simp_wf
            refine hT2 _ ?_
            simp_wf
            rw [due5_ring (by omega) (by omega) hts.first j0 j1 wn (rg.mpr ((hr j).mp c2))] at hk
            exact hk
          · rw [decide_eq_false c2]
            simp_wf
            refine hU2 _ (hN5 _ ?_)
            simp_wf
            rw [due5_ok (by omega) (by omega) hts.first j0 j1 (by rw [lt]; exact ho.ok) (wk_ok w1 w3) wn fun z => c2 ((hr j).mpr (rg.mp z))] at hk
            exact ⟨⟨by omega, j0, j1⟩, hk⟩
      | false =>
        simp_wf
        refine hU _ (hN3 _ (seq_d fun N4 hN4 => if_d fun T2 U2 hT2 hU2 => ?_))
        have eF : foD (ts[j.toNat]?.getD .non) = f := by rw [et, Option.getD_some, foD_mk]
        simp_wf
        refine ⟨⟨rfl, flat_ints⟩, ?_⟩
        rw [inD_ints]
        by_cases c : i ∈ f
        · rw [decide_eq_true c]
          simp_wf
          refine hU2 _ (hN4 _ (seq_d fun N5 hN5 => ?_))
          have eN : newT (ts[j.toNat]?.getD .non) i false = .tup [.tup ((f.filter (fun y => decide (y ≠ i))).map D.int), dl, dh] := by
            unfold newT newF
            rw [eF, et, Option.getD_some]
            rfl
          have nf := newF_part (i := i) pw
          have nj : j ∉ f := gr_self wo
          have wn := word_fo wo nf.1 (fun x hx => by rw [g.len]; exact g.val f fm x (nf.2 x hx)) fun z => nj (nf.2 j z)
          rw [due7_part5 i0 i1 j0 j1 (by rw [eF]; exact c), eN, due5_ok (by omega) (by omega) hts.first j0 j1 (by rw [lt]; exact ho.ok) (wk_ok w1 w3) wn (ring_less g j0 ef hts.noring nf.2 (nf.1.imp fun h => by omega))] at hk
          simp_wf
          simp only [dLc_eq]
          simp_wf
          refine lc_fil (fun d => match d with | .int y => decide (y ≠ i) | _ => true) rfl (by rw [List.length_map]; omega) (fun d hd k hk => ?_) ?_
          · obtain ⟨y, hy, rfl⟩ := List.mem_map.mp hd
            unfold LcT
            simp_wf
            by_cases c2 : y = i
            · rw [if_neg (by simpa using c2)] at hk
              rw [if_neg (fun z => z c2)]
              exact hk
            · rw [if_pos (by simpa using c2)] at hk
              rw [if_pos c2]
              exact hk
          · rw [List.filter_map]
            simp_wf
            refine hN5 _ ?_
            simp_wf
            exact ⟨⟨by omega, j0, j1⟩, hk⟩
        · rw [decide_eq_false c]
          simp_wf
          refine hT2 _ ?_
          simp_wf
          rw [due7_no i0 i1 j0 j1 (by rw [eF]; exact c)] at hk
          exact hk
abbrev n__law_some_pairs : List Str := ["_law_deck_here", "_law_tasks_here", "_law_found", "_law_first", "_law_k", "_law_second"]
abbrev t__law_some_pairs : DTS := (dSeq (dOwn 2 (dLst dNil))
  (dSeq (dFor (diRg1 (dCons (dRel (dUn oLen (dVar 1))) dNil)) (dName 3) (dDrop (dExt 2 (dLc (diRg1 (dCons (dRel (dUn oLen (dVar 1))) dNil)) (dName 5) dYes (dTup (dCons (dRel (dVar 3)) (dCons (dRel (dVar 5)) dNil))) [5]))))
  (dSeq (dFor (diRg1 (dCons (dC (.int 6)) dNil)) (dName 4) (dDrop (dApp 2 (dTup (dCons (dCallB 0 1 fOddN (dCons (dRel (dUn oLen (dVar 1))) dNil)) (dCons (dCallB 0 1 fOddN (dCons (dRel (dUn oLen (dVar 1))) dNil)) dNil))))))
  (dRet (dVar 2)))))
theorem rd__law_some_pairs : ∀ b ds kk xx, ds.length = 1 → fSomeP ds kk xx → t__law_some_pairs (bEnds b kk) (envB b n__law_some_pairs ds) := by
  unfold t__law_some_pairs n__law_some_pairs
  rintro b ds kk xx hl h
  match ds, hl, h with
  | [.tup ts], _, ⟨⟨t1, t5⟩, h⟩ =>
    refine seq_d fun N hN => ?_
    simp_wf
    intro a
    refine hN _ (seq_d fun N2 hN2 => ?_)
    simp only [dFor_eq]
    simp_wf
    have fi : ∀ x : Int, -10 ≤ x → x ≤ 10 → Fit 131 300 6 (.int x) := fun x h0 h1 => (fit_int (b := 10) (by have k10 : (2 : Nat) ^ 10 = 1024 := rfl; omega)).up
    refine ⟨by omega, by omega, for_in (fun i e => ∃ L x3, e = [.bag b, .dat (.tup ts), .own a L, x3, .no, .no] ∧ L.length ≤ 5 * i ∧ ∀ d ∈ L, ∃ a b, d = .tup [a, b] ∧ Fit 131 300 6 a ∧ Fit 131 300 6 b) ⟨_, _, rfl, by simp, fun d hd => by cases hd⟩ ?_ ?_⟩
    · rintro i d e hd ⟨L, x3, rfl, lL, hL⟩ N3 hN3
      obtain ⟨il, rfl⟩ := rgD_get hd
      simp_wf
      simp only [dLc_eq]
      simp_wf
      refine ⟨by omega, by omega, ?_⟩
      have lr : (rgD 0 ((ts.length : Nat) : Int).toNat).length = ts.length := by unfold rgD; rw [List.length_map, List.length_range]; omega
      refine lc_map (fun d => .tup [.int (0 + ((i : Nat) : Int)), d]) rfl (by omega) (fun d hd k hk => ?_) ?_
      · unfold LcT
        simp_wf
        exact hk
      · simp_wf
        refine ⟨by rw [List.length_map, lr]; omega, hN3 _ ⟨_, _, rfl, by rw [List.length_append, List.length_map, lr]; omega, fun d hd => ?_⟩⟩
        rcases List.mem_append.mp hd with hd | hd
        · exact hL d hd
        · obtain ⟨x, hx, rfl⟩ := List.mem_map.mp hd
          obtain ⟨n, hn⟩ := List.getElem?_of_mem hx
          obtain ⟨nl, rfl⟩ := rgD_get hn
          exact ⟨_, _, rfl, fi _ (by omega) (by omega), fi _ (by omega) (by omega)⟩
    · rintro e ⟨L, x3, rfl, lL, hL⟩
      have lr : (rgD 0 ((ts.length : Nat) : Int).toNat).length = ts.length := by unfold rgD; rw [List.length_map, List.length_range]; omega
      rw [lr] at lL
      refine hN2 _ (seq_d fun N3 hN3 => ?_)
      simp only [dFor_eq]
      simp_wf
      refine ⟨by decide, by decide, for_in (fun i e => ∃ L x4, e = [.bag b, .dat (.tup ts), .own a L, x3, x4, .no] ∧ L.length ≤ 25 + i ∧ ∀ d ∈ L, ∃ a b, d = .tup [a, b] ∧ Fit 131 300 6 a ∧ Fit 131 300 6 b) ⟨_, _, rfl, by omega, hL⟩ ?_ ?_⟩
      · rintro i d e hd ⟨L, x4, rfl, lL, hL⟩ N4 hN4
        obtain ⟨il, rfl⟩ := rgD_get hd
        simp_wf
        refine ⟨⟨by omega, by omega⟩, fun d1 f1 => ?_⟩
        simp_wf
        refine ⟨⟨by omega, by omega⟩, fun d2 f2 => ?_⟩
        simp_wf
        refine ⟨by omega, hN4 _ ⟨_, _, rfl, by rw [List.length_append, List.length_singleton]; omega, fun d hd => ?_⟩⟩
        rcases List.mem_append.mp hd with hd | hd
        · exact hL d hd
        · rw [List.mem_singleton.mp hd]
          exact ⟨_, _, rfl, f1, f2⟩
      · rintro e ⟨L, x4, rfl, lL, hL⟩
        have l6 : (rgD 0 (6 : Int).toNat).length = 6 := by decide
        refine hN3 _ ?_
        simp_wf
        exact h L (by omega) hL
/-! ### the law -/
theorem noPD_fit {a b : D} {n m : Nat} (ha : Fit 134 n m a) (hb : Fit 134 n m b) (hn : 20 ≤ n) (hm : 1 ≤ m) : Fit 134 ((n + 2) * 4 + 3) (m + 1) (noPD a b) := by
  have f1 : Fit 0 20 0 (.str "no pair") := fit_of (by decide +kernel)
  have f2 : Fit 0 20 1 (.lst [.bl true, .bl false, .bl false]) := fit_of (by decide +kernel)
  exact fit_lst (L := 4) (fits_cons f1.up (fits_cons ha (fits_cons hb (fits_cons f2.up fits_nil)))) (by simp)
theorem newT_fit {m : Nat} {ts : List D} {i j : Int} {p : Bool} (m5 : m ≤ 5) (hts : TasksD m ts) (i0 : 0 ≤ i) (i1 : i < ts.length) (j0 : 0 ≤ j) (j1 : j < ts.length) : Fit 134 13000 8 (newT (ts[j.toNat]?.getD .non) i p) := by
  obtain ⟨l, line, pm, hall⟩ := hts
  have lj : j.toNat < ts.length := by omega
  have et := List.getElem?_eq_getElem lj
  obtain ⟨ns, p', q', e, pw, hv, sp⟩ := (hall _ _ et).ex
  have hn : ∀ x ∈ ns, 0 ≤ x ∧ x < (m : Int) := fun x hx => mem_rgI.mp (pm.subset (hv x hx).1)
  rw [et, Option.getD_some, e]
  unfold newT newF
  rw [foD_mk]
  cases p with
  | true =>
    have nf := newF_put (i := i) pw
    have hm : ∀ x ∈ sortI (ns.filter (fun y => decide (y ≠ i)) ++ [i]), 0 ≤ x ∧ x < (m : Int) := fun x hx => by
      rcases (nf.2 x).mp hx with q | q
      · exact hn x q
      · omega
    exact (task_fit (fun x hx => by have := hm x hx; omega) (Nat.le_trans (nodup_few (nf.1.imp fun h => by omega) hm) m5) sp).up
  | false =>
    have nf := newF_part (i := i) pw
    exact (task_fit (fun x hx => by have := hn x (nf.2 x hx); omega) (Nat.le_trans (nodup_few (nf.1.imp fun h => by omega) fun x hx => hn x (nf.2 x hx)) m5) sp).up
theorem due7_fit {m : Nat} {ts : List D} {o w a b : D} {p : Bool} (m5 : m ≤ 5) (hts : TasksD m ts) (ht : ∀ x ∈ ts, Fit 134 13000 8 x) (ho : Fit 134 65100 9 o) (hw : Fit 134 65100 9 w) (ha : Fit 134 300 6 a) (hb : Fit 134 300 6 b) : Fit 134 330000 10 (due7 ts o w a b p) := by
  have lt : ts.length = m := hts.1
  have fN : ∀ d, Fit 134 300 6 d → Fit 134 330000 10 (dueN d) := fun d hd => by
    have fb : Fit 0 20 0 (.str "none") := fit_of (by decide +kernel)
    exact (fit_lst (L := 4) (fits_cons (fb.up (b' := 134) (n' := 300) (m' := 6)) (fits_cons hd (fits_cons fit_bl.up (fits_cons fit_bl.up fits_nil)))) (by simp)).up
  have fR : Fit 134 330000 10 (dueE .non (.str "ring")) := (fit_of (b := 0) (n := 60) (m := 3) (by decide +kernel)).up
  cases ca : isNum ts.length a with
  | false => rw [due7_a ca]; exact fN a ha
  | true =>
    cases cb : isNum ts.length b with
    | false => rw [due7_b ca cb]; exact fN b hb
    | true =>
      obtain ⟨i, rfl, i0, i1⟩ := isNum_int ca
      obtain ⟨j, rfl, j0, j1⟩ := isNum_int cb
      cases p with
      | true =>
        by_cases c : i = j
        · rw [due7_ring i0 i1 j0 j1 c]; exact fR
        · rw [due7_put5 i0 i1 j0 j1 c]
          exact due5_fit (by omega) ht (newT_fit m5 hts i0 i1 j0 j1) ho hw hb
      | false =>
        by_cases c : i ∈ foD (ts[j.toNat]?.getD .non)
        · rw [due7_part5 i0 i1 j0 j1 c]
          exact due5_fit (by omega) ht (newT_fit m5 hts i0 i1 j0 j1) ho hw hb
        · rw [due7_no i0 i1 j0 j1 c]
          exact (noPD_fit ha hb (by decide) (by decide)).up
theorem prD_fit {p : Int × Int} (h : 0 ≤ p.1 ∧ p.1 < 10 ∧ 0 ≤ p.2 ∧ p.2 < 10) : Fit 10 507 1 (prD p) := by
  have fi : ∀ x : Int, 0 ≤ x → x < 10 → Fit 10 250 0 (.int x) := fun x h0 h1 => fit_int (b := 10) (by have k10 : (2 : Nat) ^ 10 = 1024 := rfl; omega)
  exact fit_tup (L := 2) (fits_cons (fi _ h.1 h.2.1) (fits_cons (fi _ h.2.2.1 h.2.2.2) fits_nil)) (by simp)
abbrev n_law_k07 : List Str := ["_law_script", "_law_deck_here", "_law_turn", "_law_tasks_here", "_law_order", "_law_workers", "_law_plan", "_law_due_here", "_law_second", "_law_first", "_law_way", "_law_right"]
abbrev t_law_k07 (C_Plan : Addr) (C_BadPlan : Addr) (C_NoTask : Addr) (C_NoPair : Addr) : DTS := (dSeq (dDeck 1 0)
  (dSeq (dFor (diRg1 (dCons (dC (.int 2)) dNil)) (dName 2) (dSeq (dAsg (dCallB 1 0 fParts dNil) (dgLst 3 (dgCons (dName 3) (dgCons (dName 4) (dgCons (dName 5) dgNil)))))
  (dSeq (dPar2 6 7 (dDat (dCall 3 (fPlan C_Plan C_BadPlan) (fun _ => False) (dCons (dRel (dVar 3)) (dCons (dRel (dVar 4)) (dCons (dRel (dVar 5)) dNil))))) (dLst dNil))
  (dSeq (dFor (diRg1 (dCons (dRel (dUn oLen (dVar 3))) dNil)) (dName 8) (dDrop (dExt 7 (dLc (diSeq (dOp oIx (dOp oIx (dVar 3) (dVar 8)) (dDat (dC (.int 0))))) (dName 9) dYes (dTup (dCons (dRel (dVar 9)) (dCons (dRel (dVar 8)) dNil))) [9]))))
  (dSeq (dIf (dTst (dOp (oStrs true) (dUn oRepr (dDat (dMeth C_Plan "pairs" 0 (fPairs C_Plan) (fun _ => False) (dRel (dVar 6)) dNil))) (dUn oRepr (dUn oTuple (dUn oSortP (dVar 7)))))) (dRet (dDat (dC (.bl false)))) dNext)
  (dSeq (dFor (diSeq (dDat (dCallB 1 1 fSomeP (dCons (dRel (dVar 3)) dNil)))) (dgTup 2 (dgCons (dName 9) (dgCons (dName 8) dgNil))) (dFor (diRg1 (dCons (dC (.int 4)) dNil)) (dName 10) (dSeq (dSet 11 (dCall 6 fDue7 (fun _ => False) (dCons (dRel (dVar 3)) (dCons (dRel (dVar 4)) (dCons (dRel (dVar 5)) (dCons (dRel (dVar 9)) (dCons (dRel (dVar 8)) (dCons (dRel (dOp (oIn false) (dVar 10) (dDat (dC (.tup [(.int 0), (.int 2)]))))) dNil))))))))
  (dIf (dTst (dOp (oStrs true) (dUn oRepr (dDat (dCall 4 (fChg C_Plan) (fun _ => False) (dCons (dRel (dVar 6)) (dCons (dRel (dVar 9)) (dCons (dRel (dVar 8)) (dCons (dRel (dVar 10)) dNil))))))) (dUn oRepr (dVar 11)))) (dRet (dDat (dC (.bl false)))) dNext))))
  (dIf (dTst (dOp (oStrs true) (dUn oRepr (dDat (dCall 1 (fTold C_Plan) (fun _ => False) (dCons (dRel (dVar 6)) dNil)))) (dUn oRepr (dLst (dCons (dRel (dVar 3)) (dCons (dRel (dVar 4)) (dCons (dRel (dVar 5)) dNil))))))) (dRet (dDat (dC (.bl false)))) dNext)))))))
  (dRet (dDat (dC (.bl true))))))
theorem rd_law_k07 {C_Plan : Addr} {C_BadPlan : Addr} {C_NoTask : Addr} {C_NoPair : Addr} : ∀ ns : List Int, ns.length ≤ 63 → t_law_k07 C_Plan C_BadPlan C_NoTask C_NoPair lEnds (env0 n_law_k07 [.lst (ns.map D.int)]) := by
  unfold t_law_k07 n_law_k07
  intro ns l63
  refine seq_d fun N hN => ?_
  simp_wf
  refine ⟨⟨ns, rfl, l63⟩, fun b => hN _ (seq_d fun N2 hN2 => ?_)⟩
  simp only [dFor_eq]
  simp_wf
  refine ⟨by decide, by decide, for_in (fun i e => ∃ x2 x3 x4 x5 x6 x7 x8 x9 x10 x11, e = [.dat (.lst (ns.map D.int)), .bag b, x2, x3, x4, x5, x6, x7, x8, x9, x10, x11] ∧ x9.ad = none) ⟨_, _, _, _, _, _, _, _, _, _, rfl, rfl⟩ ?_ ?_⟩
  · rintro i d e hd ⟨x2, x3, x4, x5, x6, x7, x8, x9, x10, x11, rfl, xa⟩ N3 hN3
    simp_wf
    refine seq_d fun N4 hN4 => ?_
    simp_wf
    intro m ts o w m1 m5 hts ho w1 w3
    simp_wf
    refine hN4 _ (seq_d fun N5 hN5 => ?_)
    have lt : ts.length = m := hts.1
    obtain ⟨line, pm, hall⟩ := hts.2
    have fts : ∀ d ∈ ts, Fit 134 13000 8 d := fun d hd => by
      obtain ⟨j, hj⟩ := List.getElem?_of_mem hd
      exact ((hall j d hj).fit pm m5).up
    have ft : Fit 134 65100 9 (.tup ts) := (fit_tup (L := 5) fts (by omega)).up
    have fo := (ho.fit m5).up (b' := 134) (n' := 65100) (m' := 9)
    have fw : Fit 134 65100 9 (.int w) := (fit_int (b := 10) (by have k10 : (2 : Nat) ^ 10 = 1024 := rfl; omega)).up
    have fl : Fit 134 400000 11 (.lst [.tup ts, o, .int w]) := (fit_lst (L := 3) (fits_cons ft (fits_cons fo (fits_cons fw fits_nil))) (by simp)).up
    have pe := plan_ok m1 m5 hts ho w1 w3
    obtain ⟨fs, g⟩ := gr_of (by omega) hts.first
    simp_wf
    refine ⟨⟨ft.small, fo.small, fw.small⟩, fun _ => ?_, fun n y z => by rw [pe] at z; cases z⟩
    intro a
    refine hN5 _ (seq_d fun N6 hN6 => ?_)
    simp only [dFor_eq]
    simp_wf
    have lr : (rgD 0 ((ts.length : Nat) : Int).toNat).length = ts.length := by unfold rgD; rw [List.length_map, List.length_range]; omega
    refine ⟨by omega, by omega, for_in (fun i e => ∃ x8, e = [.dat (.lst (ns.map D.int)), .bag b, .dat d, .dat (.tup ts), .dat o, .dat (.int w), .dat (.obj C_Plan pNs [.tup ts, o, .int w]), .own a ((prs 0 (fs.take i)).map prD), x8, x9, x10, x11]) ⟨_, rfl⟩ ?_ ?_⟩
    · rintro i d2 e hd2 ⟨x8, rfl⟩ N7 hN7
      obtain ⟨il, rfl⟩ := rgD_get hd2
      have il : i < ts.length := by omega
      obtain ⟨f, ef⟩ : ∃ f, fs[i]? = some f := by
        rw [g.len] at il
        exact ⟨_, List.getElem?_eq_getElem il⟩
      obtain ⟨dl, dh, et⟩ := g.at_ i f ef
      have ea : L2.atI ts (0 + ((i : Nat) : Int)) = some (.tup [.tup (f.map D.int), dl, dh]) := by
        unfold L2.atI ixN
        rw [if_pos (by omega), if_pos (by omega), show (0 + ((i : Nat) : Int)).toNat = i by omega]
        exact et
      have fl := g.flen f (List.mem_of_getElem? ef)
      have pl : (prs 0 (fs.take i)).length ≤ 25 := by
        have := prs_len (n := 5) (fs := fs.take i) (i := 0) fun x hx => g.flen x (List.mem_of_mem_take hx)
        rw [List.length_take] at this
        have := g.few
        have : 5 * min i fs.length ≤ 5 * 5 := Nat.mul_le_mul_left 5 (by omega)
        omega
      simp_wf
      simp only [dLc_eq]
      simp_wf
      rw [ea]
      dsimp only
      simp_wf
      refine lc_map (fun d => .tup [d, .int (0 + ((i : Nat) : Int))]) (by show (x9.ad.isNone && true) = true; rw [xa]; rfl) (by rw [List.length_map]; omega) (fun d hd k hk => ?_) ?_
      · obtain ⟨y, hy, rfl⟩ := List.mem_map.mp hd
        unfold LcT
        simp_wf
        exact hk
      · rw [List.map_map]
        simp_wf
        refine ⟨by rw [List.length_map, List.length_map]; omega, ?_⟩
        rw [show List.map prD (prs 0 (List.take i fs)) ++ List.map ((fun d => D.tup [d, D.int (0 + ((i : Nat) : Int))]) ∘ D.int) f = List.map prD (prs 0 (List.take (i + 1) fs)) by rw [prs_take ef, List.map_append, List.map_map, Int.zero_add]; rfl]
        exact hN7 _ ⟨_, rfl⟩
    · rintro e ⟨x8, rfl⟩
      refine hN6 _ (seq_d fun N7 hN7 => if_d fun T U hT hU => ?_)
      rw [lr, g.len, List.take_length]
      simp_wf
      have fit : ∀ rs : List (Int × Int), rs.Perm (prs 0 fs) → Fit 10 400000 11 (.tup (rs.map prD)) := fun rs hr => by
        have l : rs.length ≤ 64 := by rw [hr.length_eq]; exact Nat.le_of_lt g.prs.1
        refine (fit_tup (b := 10) (n := 507) (m := 1) (L := 64) (fun d hd => ?_) (by rw [List.length_map]; exact l)).up
        obtain ⟨p, hp, rfl⟩ := List.mem_map.mp hd
        exact prD_fit (g.prs.2 p (hr.subset hp))
      refine ⟨by decide +kernel, ⟨rfl, rfl⟩, fs, g, fun qs q1 q2 => ?_⟩
      refine ⟨(fit qs q1).r, prs 0 fs, rfl, g.prs.1, g.prs.2, fun rs r1 r2 => ⟨(fit rs r1).r, ?_⟩⟩
      rw [lePr_uniq g.prs.2 q1 r1 q2 r2, if_neg (fun z => z rfl)]
      refine hU _ (hN7 _ (seq_d fun N8 hN8 => ?_))
      simp only [dFor_eq]
      simp_wf
      refine ⟨⟨by omega, by omega⟩, fun L lL hL => ?_⟩
      simp_wf
      refine for_in (fun i e => ∃ x8 x9 x10 x11, e = [.dat (.lst (ns.map D.int)), .bag b, .dat d, .dat (.tup ts), .dat o, .dat (.int w), .dat (.obj C_Plan pNs [.tup ts, o, .int w]), .own a ((prs 0 fs).map prD), x8, x9, x10, x11] ∧ x9.ad = none) ⟨_, _, _, _, rfl, xa⟩ ?_ ?_
      · rintro i2 d2 e hd2 ⟨x8, x9, x10, x11, rfl, xa⟩ N9 hN9
        obtain ⟨u, v, rfl, fu, fv⟩ := hL d2 (List.mem_of_getElem? hd2)
        simp_wf
        simp only [dFor_eq]
        simp_wf
        refine ⟨by decide, by decide, for_in (fun i e => ∃ x10 x11, e = [.dat (.lst (ns.map D.int)), .bag b, .dat d, .dat (.tup ts), .dat o, .dat (.int w), .dat (.obj C_Plan pNs [.tup ts, o, .int w]), .own a ((prs 0 fs).map prD), .dat v, .dat u, x10, x11]) ⟨_, _, rfl⟩ ?_ ?_⟩
        · rintro i3 d3 e hd3 ⟨x10, x11, rfl⟩ N10 hN10
          obtain ⟨il, rfl⟩ := rgD_get hd3
          have il : i3 < 4 := il
          simp_wf
          refine seq_d fun N11 hN11 => ?_
          simp_wf
          have ei : inD (.int (0 + ((i3 : Nat) : Int))) [D.int 0, D.int 2] = isPut (0 + ((i3 : Nat) : Int)) := by
            match i3, il with
            | 0, _ => rfl
            | 1, _ => rfl
            | 2, _ => rfl
            | 3, _ => rfl
          rw [ei]
          refine ⟨⟨rfl, rfl⟩, ⟨m, ⟨m1, m5⟩, hts, ho, w1, w3⟩, ⟨small_no fu.small, small_no fv.small⟩, hN11 _ (if_d fun T U hT hU => ?_)⟩
          simp_wf
          have fd := due7_fit (p := isPut (0 + ((i3 : Nat) : Int))) m5 hts fts fo fw (fu.up (b' := 134) (n' := 300) (m' := 6)) (fv.up (b' := 134) (n' := 300) (m' := 6))
          refine ⟨⟨rfl, rfl, by omega, small_no fu.small, small_no fv.small, fo.small, fw.small, by omega, by omega⟩, ⟨fs, g⟩, fun i j p i0 i1 j0 j1 => (tup_set_fit (by omega) fts (newT_fit m5 hts i0 i1 j0 j1)).small, fd.r, fd.r, ?_⟩
          rw [if_neg (fun z => z rfl)]
          exact hU _ (hN10 _ ⟨_, _, rfl⟩)
        · rintro e ⟨x10, x11, rfl⟩
          exact hN9 _ ⟨_, _, _, _, rfl, rfl⟩
      · rintro e ⟨x8, x9, x10, x11, rfl, xa⟩
        refine hN8 _ (if_d fun T U hT hU => ?_)
        simp_wf
        refine ⟨⟨rfl, rfl⟩, fl.r, fl.r, ?_⟩
        rw [if_neg (fun z => z rfl)]
        exact hU _ (hN3 _ ⟨_, _, _, _, _, _, _, _, _, _, rfl, xa⟩)
  · rintro e ⟨x2, x3, x4, x5, x6, x7, x8, x9, x10, x11, rfl, xa⟩
    refine hN2 _ ?_
    simp_wf
end KK
namespace KK
open PySem PySem.Spec PyProof.Rows L2 LL DL K01
/-! ### plans asked -/
theorem isNum_of4 {m : Int} {i : Int} (h0 : 0 ≤ i) (h1 : i < m) : isNum m (.int i) = true := by
  show (decide (0 ≤ i) && decide (i < m)) = true
  rw [decide_eq_true h0, decide_eq_true h1]
  rfl
def fGetI (C CN : Addr) : DF := fun ds k x => match ds with
  | [.obj C' ns [.tup ts, _, _], n] => (C' = C ∧ ns = pNs ∧ ts.length ≤ 5 ∧ noObj n = true) ∧ (isNum ts.length n = false → x (noT CN n)) ∧ ∀ i : Int, n = .int i → 0 ≤ i → i < ts.length → ∀ t, ts[i.toNat]? = some t → k t
  | _ => False
def fLenP (C : Addr) : DF := fun ds k _ => match ds with
  | [.obj C' ns [.tup ts, _, _]] => (C' = C ∧ ns = pNs) ∧ k (.int ts.length)
  | _ => False
def wordsS (n w : Int) : Str := Str.empty ++ (Str.ofString (toString n)) ++ " tasks, " ++ (Str.ofString (toString w)) ++ " workers"
def fStrP (C : Addr) : DF := fun ds k _ => match ds with
  | [.obj C' ns [.tup ts, _, .int w]] => (C' = C ∧ ns = pNs ∧ ts.length ≤ 5 ∧ 0 ≤ w ∧ w ≤ 3) ∧ k (.str (wordsS ts.length w))
  | _ => False
def fEqA (C : Addr) : DF := fun ds k _ => match ds with
  | [.obj C1 n1 [t, o, w], d] => (C1 = C ∧ n1 = pNs) ∧ ((∃ t' o' w', d = .obj C pNs [t', o', w'] ∧ (eqOk t = true ∧ eqOk o = true ∧ eqOk w = true ∧ eqOk t' = true ∧ eqOk o' = true ∧ eqOk w' = true) ∧ k (.bl (PyData.eqv t.py t'.py && PyData.eqv o.py o'.py && PyData.eqv w.py w'.py))) ∨ ((∃ n, tyD d = some n) ∧ k (.bl false)))
  | _ => False
abbrev n_Plan___getitem__ : List Str := ["self", "at"]
abbrev t_Plan___getitem__ (C_NoTask : Addr) (C_Plan : Addr) (xx : Er → Prop) : DTS := (dSeq (dDrop (dDat (dMeth C_Plan "check_number" 1 (fChk C_Plan C_NoTask) xx (dRel (dVar 0)) (dCons (dRel (dVar 1)) dNil))))
  (dRet (dOp oIx (dDat (dFld C_Plan "held_tasks" (dRel (dVar 0)))) (dVar 1))))
theorem rd_Plan___getitem__ {C_NoTask : Addr} {C_Plan : Addr} : ∀ xx ds kk, ds.length = 2 → (fGetI C_Plan C_NoTask) ds kk xx → t_Plan___getitem__ C_NoTask C_Plan xx (dEnds kk) (env0 n_Plan___getitem__ ds) := by
  unfold t_Plan___getitem__ n_Plan___getitem__
  intro xx
  rintro ds kk hl h
  match ds, hl, h with
  | [.obj C' ns [.tup ts, o, w], n], _, ⟨⟨e1, e2, l5, hn⟩, h1, h2⟩ =>
    subst e1 e2
    refine seq_d fun N hN => ?_
    simp_wf
    refine ⟨by decide +kernel, ⟨rfl, rfl, l5, hn⟩, fun z => hN _ ?_, h1⟩
    obtain ⟨i, e, i0, i1⟩ := isNum_int z
    subst e
    have lt : i.toNat < ts.length := by omega
    have ea : L2.atI ts i = some ts[i.toNat] := by
      unfold L2.atI ixN
      rw [if_pos i0, if_pos i1]
      exact List.getElem?_eq_getElem lt
    simp_wf
    rw [lk_t]
    dsimp only
    simp_wf
    rw [ea]
    exact h2 i rfl i0 i1 _ (List.getElem?_eq_getElem lt)
abbrev n_Plan___len__ : List Str := ["self"]
abbrev t_Plan___len__ (C_Plan : Addr) : DTS := (dRet (dUn oLen (dDat (dFld C_Plan "held_tasks" (dRel (dVar 0))))))
theorem rd_Plan___len__ {C_Plan : Addr} : ∀ ds kk xx, ds.length = 1 → (fLenP C_Plan) ds kk xx → t_Plan___len__ C_Plan (dEnds kk) (env0 n_Plan___len__ ds) := by
  unfold t_Plan___len__ n_Plan___len__
  rintro ds kk xx hl h
  match ds, hl, h with
  | [.obj C' ns [.tup ts, o, w]], _, ⟨⟨e1, e2⟩, hk⟩ =>
    subst e1 e2
    simp_wf
    rw [lk_t]
    dsimp only
    simp_wf
    exact hk
theorem str_n {n : Int} (h0 : 0 ≤ n) (h9 : n < 10) : (Str.ofString (toString n)).length ≤ 20 := by
  have e : (toString n : String).length ≤ 20 := by
    obtain ⟨k, rfl⟩ := Int.eq_ofNat_of_zero_le h0
    have : k < 10 := by omega
    match k, this with
    | 0, _ => decide
    | 1, _ => decide
    | 2, _ => decide
    | 3, _ => decide
    | 4, _ => decide
    | 5, _ => decide
    | 6, _ => decide
    | 7, _ => decide
    | 8, _ => decide
    | 9, _ => decide
  rw [PySem.ofString_length]
  exact e
theorem app_len {x y : Str} {m n : Nat} (hx : x.length ≤ m) (hy : y.length ≤ n) : (x ++ y).length ≤ m + n := by
  rw [PySem.Str.length_append]
  omega
abbrev n_Plan___str__ : List Str := ["self"]
abbrev t_Plan___str__ (C_Plan : Addr) : DTS := (dRet (dDat (dJoin ((dFmt (dRel (dUn oLen (dDat (dFld C_Plan "held_tasks" (dRel (dVar 0))))))) :: ((dC (.str " tasks, ")) :: ((dFmt (dFld C_Plan "held_workers" (dRel (dVar 0)))) :: ((dC (.str " workers")) :: [])))))))
theorem rd_Plan___str__ {C_Plan : Addr} : ∀ ds kk xx, ds.length = 1 → (fStrP C_Plan) ds kk xx → t_Plan___str__ C_Plan (dEnds kk) (env0 n_Plan___str__ ds) := by
  unfold t_Plan___str__ n_Plan___str__
  rintro ds kk xx hl h
  match ds, hl, h with
  | [.obj C' ns [.tup ts, o, .int w]], _, ⟨⟨e1, e2, l5, w0, w3⟩, hk⟩ =>
    subst e1 e2
    simp_wf
    rw [lk_t, lk_w]
    dsimp only
    simp_wf
    have a0 : (Str.empty).length ≤ 0 := by decide
    have a1 := app_len a0 (str_n (n := ((ts.length : Nat) : Int)) (by omega) (by omega))
    have a2 := app_len a1 (y := Str.ofString " tasks, ") (n := 20) (by decide +kernel)
    have a3 := app_len a2 (str_n w0 (by omega))
    have a4 := app_len a3 (y := Str.ofString " workers") (n := 20) (by decide +kernel)
    exact ⟨log1920 (by omega), by omega, by omega, log1920 (by omega), by omega, by omega, hk⟩
abbrev n_Plan___eq___any : List Str := ["self", "other"]
abbrev t_Plan___eq___any (C_Plan : Addr) : DTS := (dRet (dAndV (dDat (dIsC C_Plan (dRel (dVar 1)))) (dAndV (dOp oEq (dDat (dFld C_Plan "held_tasks" (dRel (dVar 0)))) (dDat (dFld C_Plan "held_tasks" (dRel (dVar 1))))) (dAndV (dOp oEq (dDat (dFld C_Plan "held_order" (dRel (dVar 0)))) (dDat (dFld C_Plan "held_order" (dRel (dVar 1))))) (dOp oEq (dDat (dFld C_Plan "held_workers" (dRel (dVar 0)))) (dDat (dFld C_Plan "held_workers" (dRel (dVar 1)))))))))
theorem rd_Plan___eq___any {C_Plan : Addr} : ∀ ds kk xx, ds.length = 2 → (fEqA C_Plan) ds kk xx → t_Plan___eq___any C_Plan (dEnds kk) (env0 n_Plan___eq___any ds) := by
  unfold t_Plan___eq___any n_Plan___eq___any
  rintro ds kk xx hl h
  match ds, hl, h with
  | [.obj C1 n1 [t, o, w], d], _, ⟨⟨e1, e2⟩, hh⟩ =>
    subst e1 e2
    rcases hh with ⟨t', o', w', e3, ⟨h1, h2, h3, h4, h5, h6⟩, hk⟩ | ⟨⟨n, hn⟩, hk⟩
    · subst e3
      simp_wf
      simp only [dIsC]
      simp_wf
      show eqOk t = true ∧ eqOk t' = true ∧ (if t.py.eqv t'.py = true then eqOk o = true ∧ eqOk o' = true ∧ (if o.py.eqv o'.py = true then eqOk w = true ∧ eqOk w' = true ∧ kk (.bl (w.py.eqv w'.py)) else kk (.bl false)) else kk (.bl false))
      refine ⟨h1, h4, ?_⟩
      cases c1 : t.py.eqv t'.py with
      | false =>
        rw [c1] at hk
        exact hk
      | true =>
        rw [c1, Bool.true_and] at hk
        rw [if_pos rfl]
        refine ⟨h2, h5, ?_⟩
        cases c2 : o.py.eqv o'.py with
        | false => rw [c2] at hk; exact hk
        | true =>
          rw [c2, Bool.true_and] at hk
          rw [if_pos rfl]
          exact ⟨h3, h6, hk⟩
    · cases d with
      | obj C2 n2 f2 => cases hn
      | _ =>
        simp_wf
        simp only [dIsC]
        simp_wf
        exact ⟨⟨_, rfl⟩, hk⟩
def due4 (ts : List D) (n : D) : D := if isNum ts.length n = true then .lst [.str "task", ts[(match n with | .int i => i | _ => 0).toNat]?.getD .non] else dueN n
def fGot (C : Addr) : DF := fun ds k _ => match ds with
  | [.obj C' ns [.tup ts, _, _], n] => (C' = C ∧ ns = pNs ∧ ts.length ≤ 5 ∧ noObj n = true) ∧ k (due4 ts n)
  | _ => False
def fDue4 : DF := fun ds k _ => match ds with
  | [.tup ts, n] => (ts.length ≤ 5 ∧ noObj n = true) ∧ k (due4 ts n)
  | _ => False
abbrev n__law_got : List Str := ["_law_plan", "_law_number", "_law_found", "_law_error"]
abbrev t__law_got (C_Plan : Addr) (C_NoTask : Addr) : DTS := (dSeq (dSet 2 (dC .non))
  (dSeq (dTry (fun xr => (dSet 2 (dRel (dLst (dCons (dC (.str "task")) (dCons (dIxO C_Plan (fGetI C_Plan C_NoTask) xr (dRel (dVar 0)) (dRel (dVar 1))) dNil)))))) (⟨[(C_NoTask, true)], some 3, fun C a dd => (dSet 2 (dCallE 3 a dd eNone))⟩ :: []))
  (dRet (dVar 2))))
theorem rd__law_got {C_Plan : Addr} {C_NoTask : Addr} : ∀ ds kk xx, ds.length = 2 → (fGot C_Plan) ds kk xx → t__law_got C_Plan C_NoTask (dEnds kk) (env0 n__law_got ds) := by
  unfold t__law_got n__law_got
  rintro ds kk xx hl h
  match ds, hl, h with
  | [.obj C' ns [.tup ts, o, w], n], _, ⟨⟨e1, e2, l5, hn⟩, hk⟩ =>
    subst e1 e2
    refine seq_d fun N hN => ?_
    simp_wf
    refine hN _ (seq_d fun N2 hN2 => ?_)
    simp_wf
    have fin : ∀ q, q = due4 ts n → N2 [.dat (.obj C' pNs [.tup ts, o, w]), .dat n, .dat q, .no] := fun q e => by
      refine hN2 _ ?_
      simp_wf
      rw [e]
      exact hk
    refine ⟨⟨rfl, rfl, l5, hn⟩, fun z => ⟨true, List.mem_cons_self, fun _ a dd => ?_, fun z => nomatch z⟩, fun i e i0 i1 t et => fin _ ?_⟩
    · simp only [Hn.ends, Hn.env, noT]
      simp_wf
      refine ⟨rfl, fin _ ?_⟩
      unfold due4
      rw [if_neg (by rw [z]; exact Bool.false_ne_true)]
    · subst e
      unfold due4
      rw [if_pos (isNum_of4 i0 i1)]
      dsimp only
      rw [et]
      rfl
abbrev n__law_due_k04 : List Str := ["_law_tasks_here", "_law_number"]
abbrev t__law_due_k04 : DTS := (dSeq (dIf (dTst (dDat (dCall 2 fIsNum (fun _ => False) (dCons (dRel (dVar 1)) (dCons (dRel (dUn oLen (dVar 0))) dNil))))) (dRet (dLst (dCons (dC (.str "task")) (dCons (dRel (dOp oIx (dVar 0) (dVar 1))) dNil)))) dNext)
  (dRet (dLst (dCons (dC (.str "none")) (dCons (dRel (dVar 1)) (dCons (dC (.bl true)) (dCons (dC (.bl false)) dNil)))))))
theorem rd__law_due_k04 : ∀ ds kk xx, ds.length = 2 → fDue4 ds kk xx → t__law_due_k04 (dEnds kk) (env0 n__law_due_k04 ds) := by
  unfold t__law_due_k04 n__law_due_k04
  rintro ds kk xx hl h
  match ds, hl, h with
  | [.tup ts, n], _, ⟨⟨l5, hn⟩, hk⟩ =>
    refine seq_d fun N hN => if_d fun T U hT hU => ?_
    simp_wf
    refine ⟨hn, ?_⟩
    unfold due4 at hk
    cases c : isNum ts.length n with
    | false =>
      rw [if_neg (by rw [c]; exact Bool.false_ne_true)] at hk
      simp_wf
      refine hU _ (hN _ ?_)
      simp_wf
      exact hk
    | true =>
      obtain ⟨i, e, i0, i1⟩ := isNum_int c
      subst e
      rw [if_pos c] at hk
      dsimp only at hk
      have lt : i.toNat < ts.length := by omega
      have ea : L2.atI ts i = some ts[i.toNat] := by
        unfold L2.atI ixN
        rw [if_pos i0, if_pos i1]
        exact List.getElem?_eq_getElem lt
      rw [List.getElem?_eq_getElem lt, Option.getD_some] at hk
      simp_wf
      refine hT _ ?_
      simp_wf
      rw [ea]
      exact hk
/-! ### other plans -/
def LeF (p q : Int × Int) : Prop := p.1 * q.2 ≤ q.1 * p.2
theorem lo_le_r {p : Int × Int} {x y : Int} (y0 : 0 < y) (h : p.1 * y ≤ x * p.2) : LeF p (K01.lo x y) := by
  have q := lo_cross (a := x) (b := y) (by omega)
  have b2 := lo_bottom (a := x) (b := y) (by omega)
  unfold LeF
  generalize K01.lo x y = r at q b2 ⊢
  have h1 : p.1 * y * r.2 ≤ x * p.2 * r.2 := Int.mul_le_mul_of_nonneg_right h (by omega)
  have e1 : p.1 * y * r.2 = p.1 * r.2 * y := by rw [Int.mul_assoc, Int.mul_comm y, ← Int.mul_assoc]
  have e2 : x * p.2 * r.2 = r.1 * p.2 * y := by
    rw [Int.mul_assoc, Int.mul_comm p.2, ← Int.mul_assoc, ← q, Int.mul_assoc, Int.mul_comm y, ← Int.mul_assoc]
  rw [e1, e2] at h1
  exact Int.le_of_mul_le_mul_right h1 y0
theorem lo_le_l {q : Int × Int} {x y : Int} (y0 : 0 < y) (h : x * q.2 ≤ q.1 * y) : LeF (K01.lo x y) q := by
  have c := lo_cross (a := x) (b := y) (by omega)
  have b2 := lo_bottom (a := x) (b := y) (by omega)
  unfold LeF
  generalize K01.lo x y = r at c b2 ⊢
  have h1 : x * q.2 * r.2 ≤ q.1 * y * r.2 := Int.mul_le_mul_of_nonneg_right h (by omega)
  have e1 : x * q.2 * r.2 = r.1 * q.2 * y := by
    rw [Int.mul_assoc, Int.mul_comm q.2, ← Int.mul_assoc, ← c, Int.mul_assoc, Int.mul_comm y, ← Int.mul_assoc]
  have e2 : q.1 * y * r.2 = q.1 * r.2 * y := by rw [Int.mul_assoc, Int.mul_comm y, ← Int.mul_assoc]
  rw [e1, e2] at h1
  exact Int.le_of_mul_le_mul_right h1 y0
theorem Span.parts {p q : Int × Int} (h : Span p q) : 0 < p.1 ∧ 0 < p.2 ∧ 0 < q.2 ∧ LeF p q := by
  have h1 : (isFD (frD p) && decide (0 < p.1)) = true := h.low
  obtain ⟨a, b⟩ := Bool.and_eq_true_iff.mp h1
  have a : (decide (1 ≤ p.2) && decide (Int.gcd p.1 p.2 = 1)) = true := a
  have c : (decide (1 ≤ q.2) && decide (Int.gcd q.1 q.2 = 1)) = true := h.high
  have e : decide (q.1 * p.2 < p.1 * q.2) = false := h.le
  have a1 := of_decide_eq_true (Bool.and_eq_true_iff.mp a).1
  have c1 := of_decide_eq_true (Bool.and_eq_true_iff.mp c).1
  have b1 := of_decide_eq_true b
  have e1 := of_decide_eq_false e
  unfold LeF
  exact ⟨b1, by omega, by omega, by omega⟩
theorem word_lh {j m : Int} {F dl dh dl' dh' : D} (h : wordD j m (.tup [F, dl, dh]) = none) (h1 : isLow dl' = true) (h2 : isFD dh' = true) (h3 : lessD dh' dl' = false) : wordD j m (.tup [F, dl', dh']) = none := by
  have e : ∀ l k : D, wordD j m (.tup [F, l, k]) = if (ascD m F && !hasD j F) = true then (if isLow l = true then (if (isFD k && !lessD k l) = true then none else some ("high" : Str)) else some ("low" : Str)) else some ("forerunners" : Str) := fun _ _ => rfl
  rw [e] at h ⊢
  by_cases c : (ascD m F && !hasD j F) = true
  · rw [if_pos c, if_pos h1, h2, h3]
    rfl
  · rw [if_neg c] at h
    cases h
theorem set_plan {m : Nat} {ts : List D} {o : D} {w : Int} (m1 : 1 ≤ m) (m5 : m ≤ 5) (hts : TasksD m ts) (ho : OrdD m o) (w1 : 1 ≤ w) (w3 : w ≤ 3) {i : Nat} {f f' : List Int} {dl dh dl' dh' : D} (et : ts[i]? = some (.tup [.tup (f.map D.int), dl, dh])) (sub : ∀ x ∈ f', x ∈ f) (nd : f'.Nodup)
    (wn : wordD ((i : Nat) : Int) (ts.length) (.tup [.tup (f'.map D.int), dl', dh']) = none) : planE (.tup (ts.set i (.tup [.tup (f'.map D.int), dl', dh']))) o (.int w) = none := by
  have lt : ts.length = m := hts.1
  have il : i < ts.length := (List.getElem?_eq_some_iff.mp et).1
  have ls : (ts.set i (.tup [.tup (f'.map D.int), dl', dh'])).length = ts.length := List.length_set
  obtain ⟨fs, g⟩ := gr_of (by omega) hts.first
  have ef : fs[i]? = some f := by
    have l2 : i < fs.length := by rw [← g.len]; exact il
    obtain ⟨a, b, e⟩ := g.at_ i _ (List.getElem?_eq_getElem l2)
    rw [et] at e
    injection e with e
    injection e with e
    injection e with e _
    injection e with e
    rw [List.getElem?_eq_getElem l2, ints_inj e]
  have ni := ring_less (j := ((i : Nat) : Int)) (dl := dl') (dh := dh') g (by omega) (by rw [Int.toNat_natCast]; exact ef) hts.noring sub nd
  rw [Int.toNat_natCast] at ni
  refine planE_n (tasksE_n ⟨by rw [ls]; omega, by rw [ls]; omega⟩ ?_ ni) (by rw [ls, lt]; exact ho.ok) (wk_ok w1 w3)
  rw [ls]
  exact firstW_set0 hts.first il wn
theorem idx_app {line : List Int} {x y : Int} (h : x ∈ line) : (line ++ [y]).idxOf x = line.idxOf x := by rw [List.idxOf_append, if_pos h]
theorem rgI_succ {m : Nat} : rgI (m + 1) = rgI m ++ [((m : Nat) : Int)] := by
  unfold rgI
  rw [List.range_succ, List.map_append]
  rfl
theorem span11 : Span (1, 1) (1, 1) := ⟨by decide +kernel, by decide +kernel, by decide +kernel, by decide +kernel, by decide +kernel, by decide +kernel, by decide +kernel⟩
theorem TasksD.longer {m : Nat} {ts : List D} (h : TasksD m ts) : TasksD (m + 1) (ts ++ [.tup [.tup [], frD (1, 1), frD (1, 1)]]) := by
  obtain ⟨l, line, pm, hall⟩ := h
  refine ⟨by rw [List.length_append, l]; rfl, line ++ [((m : Nat) : Int)], by rw [rgI_succ]; exact pm.append_right _, fun i d hd => ?_⟩
  rw [List.getElem?_append] at hd
  by_cases c : i < ts.length
  · rw [if_pos c] at hd
    obtain ⟨ns, p, q, e, pw, hv, sp⟩ := (hall i d hd).ex
    have mi : ((i : Nat) : Int) ∈ line := pm.symm.subset (mem_rgI.mpr ⟨by omega, by omega⟩)
    exact ⟨ns, p, q, e, pw, fun x hx => ⟨List.mem_append_left _ (hv x hx).1, by rw [idx_app (hv x hx).1, idx_app mi]; exact (hv x hx).2⟩, sp⟩
  · rw [if_neg c] at hd
    have z := (List.getElem?_eq_some_iff.mp hd).1
    rw [List.length_singleton] at z
    rw [show i - ts.length = 0 by omega] at hd
    cases hd
    exact ⟨[], _, _, rfl, .nil, (fun x hx => by cases hx), span11⟩
theorem OrdD.longer {m : Nat} {ns : List Int} (h : ns.Perm (rgI m)) : OrdD (m + 1) (.tup (ns.map D.int ++ [.int ((m : Nat) : Int)])) := ⟨ns ++ [((m : Nat) : Int)], by rw [List.map_append]; rfl, by rw [rgI_succ]; exact h.append_right _⟩
theorem r_seq_fr {p : Int × Int} {k : Bool → List D → Prop} : Rv.seq (.dat (frD p)) k = k true [.int p.1, .int p.2] := rfl
theorem task_fit4 {ns : List Int} {p q : Int × Int} (h : ∀ x ∈ ns, -10 ≤ x ∧ x ≤ 10) (l5 : ns.length ≤ 5) (b1 : p.1.natAbs < 2 ^ 134) (b2 : p.2.natAbs < 2 ^ 134) (b3 : q.1.natAbs < 2 ^ 134) (b4 : q.2.natAbs < 2 ^ 134) : Fit 134 13000 8 (.tup [.tup (ns.map D.int), frD p, frD q]) := by
  have fi : ∀ d ∈ ns.map D.int, Fit 10 250 0 d := fun d hd => by
    obtain ⟨x, hx, rfl⟩ := List.mem_map.mp hd
    have := h x hx
    exact fit_int (by have k10 : (2 : Nat) ^ 10 = 1024 := rfl; omega)
  have fA : Fit 10 1500 2 (.tup (ns.map D.int)) := (fit_tup (L := 5) fi (by simpa using l5)).up
  exact (fit_tup (L := 3) (fits_cons (fA.up (b' := 134) (n' := 1500) (m' := 2)) (fits_cons (frD_fit (b := 134) b1 b2).up (fits_cons (frD_fit (b := 134) b3 b4).up fits_nil))) (by simp)).up
theorem pl_task {ns : List Int} {p q : Int × Int} : Pl 2 (.tup [.tup (ns.map D.int), frD p, frD q]) := pl_tup fun d hd => by
  rcases List.mem_cons.mp hd with rfl | hd
  · exact pl_ints
  · rcases List.mem_cons.mp hd with rfl | hd
    · exact pl_fr
    · rw [List.mem_singleton.mp hd]; exact pl_fr
structure GoodP (d : D) : Prop where
  ex : ∃ ts o w, d = .lst [.tup ts, o, .int w] ∧ ts.length ≤ 6 ∧ (ts.length < 6 → planE (.tup ts) o (.int w) = none ∧ (D.tup ts).small = true ∧ o.small = true ∧ (D.int w).small = true) ∧ Pl 3 (.tup ts) ∧ Pl 1 o
def fOthers : DF := fun ds k _ => match ds with
  | [.tup ts, o, .int w] => (∃ m, (1 ≤ m ∧ m ≤ 5) ∧ TasksD m ts ∧ OrdD m o ∧ 1 ≤ w ∧ w ≤ 3) ∧ ∀ L : List D, L.length ≤ 10 → (∀ d ∈ L, GoodP d) → k (.lst L)
  | _ => False
theorem good_of {m : Nat} {ts : List D} {o : D} {w : Int} (m1 : 1 ≤ m) (m6 : m ≤ 6) (hts : TasksD m ts) (ho : OrdD m o) (w1 : 1 ≤ w) (w3 : w ≤ 3) : GoodP (.lst [.tup ts, o, .int w]) := by
  refine ⟨ts, o, w, rfl, by rw [hts.1]; exact m6, fun l => ?_, hts.pl, ho.pl⟩
  have lt : ts.length = m := hts.1
  have m5 : m ≤ 5 := by omega
  obtain ⟨line, pm, hall⟩ := hts.2
  have fts : ∀ d ∈ ts, Fit 134 13000 8 d := fun d hd => by
    obtain ⟨j, hj⟩ := List.getElem?_of_mem hd
    exact ((hall j d hj).fit pm m5).up
  have ft : Fit 134 65100 9 (.tup ts) := (fit_tup (L := 5) fts (by omega)).up
  have fo := (ho.fit m5).up (b' := 134) (n' := 65100) (m' := 9)
  have fw : Fit 134 65100 9 (.int w) := (fit_int (b := 10) (by have k10 : (2 : Nat) ^ 10 = 1024 := rfl; omega)).up
  exact ⟨plan_ok m1 m5 hts ho w1 w3, ft.small, fo.small, fw.small⟩
abbrev n__law_others : List Str := ["_law_deck_here", "_law_tasks_here", "_law_order", "_law_workers", "_law_number", "_law_ahead", "_law_low", "_law_high", "_law_found", "_law_longer"]
abbrev t__law_others : DTS := (dSeq (dSet 4 (dCallB 0 1 fTake (dCons (dRel (dUn oLen (dVar 1))) dNil)))
  (dSeq (dAsg (dRel (dOp oIx (dVar 1) (dVar 4))) (dgTup 3 (dgCons (dName 5) (dgCons (dName 6) (dgCons (dName 7) dgNil)))))
  (dSeq (dOwn 8 (dLst (dCons (dRel (dLst (dCons (dRel (dVar 1)) (dCons (dRel (dVar 2)) (dCons (dRel (dVar 3)) dNil))))) (dCons (dRel (dLst (dCons (dRel (dVar 1)) (dCons (dRel (dUn oRev (dVar 2))) (dCons (dRel (dVar 3)) dNil))))) (dCons (dRel (dLst (dCons (dRel (dVar 1)) (dCons (dRel (dVar 2)) (dCons (dRel (dOp oAdd (dOp oMod (dUn oToInt (dVar 3)) (dDat (dC (.int 3)))) (dDat (dC (.int 1))))) dNil))))) dNil)))))
  (dSeq (dDrop (dApp 8 (dRel (dLst (dCons (dCall 3 fWith (fun _ => False) (dCons (dRel (dVar 1)) (dCons (dRel (dVar 4)) (dCons (dTup (dCons (dRel (dVar 5)) (dCons (dRel (dVar 6)) (dCons (dCall 2 fPlus (fun _ => False) (dCons (dRel (dVar 7)) (dCons (dC (.tup [(.int 1), (.int 7)])) dNil))) dNil)))) dNil)))) (dCons (dRel (dVar 2)) (dCons (dRel (dVar 3)) dNil)))))))
  (dSeq (dDrop (dApp 8 (dRel (dLst (dCons (dCall 3 fWith (fun _ => False) (dCons (dRel (dVar 1)) (dCons (dRel (dVar 4)) (dCons (dTup (dCons (dRel (dVar 5)) (dCons (dCall 2 fFrac (fun _ => False) (dCons (dRel (dOp oIx (dVar 6) (dDat (dC (.int 0))))) (dCons (dRel (dOp oMul (dDat (dC (.int 3))) (dOp oIx (dVar 6) (dDat (dC (.int 1)))))) dNil))) (dCons (dRel (dVar 7)) dNil)))) dNil)))) (dCons (dRel (dVar 2)) (dCons (dRel (dVar 3)) dNil)))))))
  (dSeq (dDrop (dApp 8 (dRel (dLst (dCons (dCall 3 fWith (fun _ => False) (dCons (dRel (dVar 1)) (dCons (dRel (dVar 4)) (dCons (dTup (dCons (dTup dNil) (dCons (dRel (dVar 6)) (dCons (dRel (dVar 7)) dNil)))) dNil)))) (dCons (dRel (dVar 2)) (dCons (dRel (dVar 3)) dNil)))))))
  (dSeq (dSet 9 (dRel (dLst (dCons (dRel (dOp oAdd (dVar 1) (dDat (dC (.tup [(.tup [(.tup []), (.tup [(.int 1), (.int 1)]), (.tup [(.int 1), (.int 1)])])]))))) (dCons (dRel (dOp oAdd (dVar 2) (dDat (dTup (dCons (dRel (dUn oLen (dVar 1))) dNil))))) (dCons (dRel (dVar 3)) dNil))))))
  (dRet (dOp oCatS (dVar 8) (dLst (dCons (dCallB 0 0 fParts dNil) (dCons (dRel (dVar 9)) dNil))))))))))))
theorem rd__law_others : ∀ b ds kk xx, ds.length = 3 → fOthers ds kk xx → t__law_others (bEnds b kk) (envB b n__law_others ds) := by
  unfold t__law_others n__law_others
  rintro b ds kk xx hl h
  match ds, hl, h with
  | [.tup ts, o, .int w], _, ⟨⟨m, ⟨m1, m5⟩, hts, ho, w1, w3⟩, h⟩ =>
    have lt : ts.length = m := hts.1
    refine seq_d fun N hN => ?_
    simp_wf
    refine ⟨take_ok (by omega) (by omega), fun u u0 u1 => hN _ (seq_d fun N2 hN2 => ?_)⟩
    have lk : u.toNat < ts.length := by omega
    obtain ⟨line, pm, hall⟩ := hts.2
    have hp := hall u.toNat ts[u.toNat] (List.getElem?_eq_getElem lk)
    obtain ⟨f, p, q, e, pw, hv, sp⟩ := hp.ex
    have et : ts[u.toNat]? = some (.tup [.tup (f.map D.int), frD p, frD q]) := by rw [List.getElem?_eq_getElem lk, e]
    have ea : L2.atI ts u = some (.tup [.tup (f.map D.int), frD p, frD q]) := by
      unfold L2.atI ixN
      rw [if_pos u0, if_pos u1]
      exact et
    simp_wf
    rw [ea]
    dsimp only
    simp_wf
    refine hN2 _ (seq_d fun N3 hN3 => ?_)
    obtain ⟨os, eo, po⟩ := id ho
    subst eo
    simp only [↓dOwn, ↓dRel, ↓dLst, ↓dCons, ↓dC, ↓dVar, ↓dUn, ↓dOp, ↓dDat, ↓dNil, ↓dTup, ↓dNew, ↓oRev, List.getElem?_cons_zero, List.getElem?_cons_succ, ↓r_rel_dat, ↓r_rd_dat, ↓r_rel_new, ↓r_rd_new, ↓oa_ii, ↓on_i, ↓r_seq_dt, ↓ot_i, ↓oi_ii, ↓st_d, ↓sto_n]
    simp_wf
    obtain ⟨p0, p1, q1, lq⟩ := sp.parts
    have wo : wordD ((u.toNat : Nat) : Int) ts.length (.tup [.tup (f.map D.int), frD p, frD q]) = none := by
      have := (hall _ _ et).word pm
      rw [lt]
      exact this
    have ndf : f.Nodup := pw.imp fun h => by omega
    have gd : ∀ d ∈ [D.lst [D.tup ts, D.tup (List.map D.int os), D.int w], D.lst [D.tup ts, D.tup (List.map D.int os).reverse, D.int w], D.lst [D.tup ts, D.tup (List.map D.int os), D.int (w.fmod 3 + 1)]], GoodP d := fun d hd => by
      have w3' : 1 ≤ w.fmod 3 + 1 ∧ w.fmod 3 + 1 ≤ 3 := by
        rw [Int.fmod_eq_emod_of_nonneg w (by decide)]
        omega
      rcases List.mem_cons.mp hd with rfl | hd
      · exact good_of m1 (by omega) hts ho w1 w3
      · rcases List.mem_cons.mp hd with rfl | hd
        · exact good_of m1 (by omega) hts ⟨os.reverse, by rw [List.map_reverse], os.reverse_perm.trans po⟩ w1 w3
        · rw [List.mem_singleton.mp hd]
          exact good_of m1 (by omega) hts ho w3'.1 w3'.2
    have gl : [D.lst [D.tup ts, D.tup (List.map D.int os), D.int w], D.lst [D.tup ts, D.tup (List.map D.int os).reverse, D.int w], D.lst [D.tup ts, D.tup (List.map D.int os), D.int (w.fmod 3 + 1)]].length ≤ 3 := by simp
    refine ⟨by decide, fun a => hN3 _ ?_⟩
    generalize [D.lst [D.tup ts, D.tup (List.map D.int os), D.int w], D.lst [D.tup ts, D.tup (List.map D.int os).reverse, D.int w], D.lst [D.tup ts, D.tup (List.map D.int os), D.int (w.fmod 3 + 1)]] = L at gd gl ⊢
    have fts : ∀ d ∈ ts, Fit 134 13000 8 d := fun d hd => by
      obtain ⟨j, hj⟩ := List.getElem?_of_mem hd
      exact ((hall j d hj).fit pm m5).up
    have fo := (ho.fit m5).up (b' := 134) (n' := 65100) (m' := 9)
    have fw : Fit 134 65100 9 (.int w) := (fit_int (b := 10) (by have k10 : (2 : Nat) ^ 10 = 1024 := rfl; omega)).up
    have fv : ∀ x ∈ f, 0 ≤ x ∧ x < (m : Int) := fun x hx => mem_rgI.mp (pm.subset (hv x hx).1)
    have gs : ∀ (f' : List Int) (p' q' : Int × Int), (∀ x ∈ f', x ∈ f) → f'.Nodup → wordD ((u.toNat : Nat) : Int) ts.length (.tup [.tup (f'.map D.int), frD p', frD q']) = none → p'.1.natAbs < 2 ^ 134 → p'.2.natAbs < 2 ^ 134 → q'.1.natAbs < 2 ^ 134 → q'.2.natAbs < 2 ^ 134 → GoodP (.lst [.tup (ts.set u.toNat (.tup [.tup (f'.map D.int), frD p', frD q'])), .tup (os.map D.int), .int w]) := fun f' p' q' sub nd wn b1 b2 b3 b4 => by
      have ls : (ts.set u.toNat (.tup [.tup (f'.map D.int), frD p', frD q'])).length = ts.length := List.length_set
      have hv' : ∀ x ∈ f', 0 ≤ x ∧ x < (m : Int) := fun x hx => fv x (sub x hx)
      refine ⟨_, _, w, rfl, by rw [ls]; omega, fun _ => ⟨set_plan m1 m5 hts ho w1 w3 et sub nd wn, (tup_set_fit (by omega) fts (task_fit4 (fun x hx => by have := hv' x hx; omega) (Nat.le_trans (nodup_few nd hv') m5) b1 b2 b3 b4)).small, fo.small, fw.small⟩, pl_tup fun d hd => ?_, ho.pl⟩
      rcases List.mem_or_eq_of_mem_set hd with hd | rfl
      · obtain ⟨j, hj⟩ := List.getElem?_of_mem hd
        obtain ⟨ns, p2, q2, rfl, _⟩ := (hall j d hj).ex
        exact pl_task
      · exact pl_task
    have up : ∀ {x : Int} {n : Nat}, x.natAbs < 2 ^ n → n ≤ 134 → x.natAbs < 2 ^ 134 := fun h1 h2 => up_lt h1 h2
    have B1 := up sp.b1 (by decide)
    have B2 := up sp.b2 (by decide)
    have B3 := up sp.b3 (by decide)
    have B4 := up sp.b4 (by decide)
    have K125 : (2 : Nat) ^ 125 * 8 = 2 ^ 128 := by decide
    have K60 : (2 : Nat) ^ 60 * 4 = 2 ^ 62 := by decide
    have K134 : (2 : Nat) ^ 128 < 2 ^ 134 := by decide
    have K62 : (2 : Nat) ^ 62 < 2 ^ 134 := by decide
    have K200 : (2 : Nat) ^ 134 < 2 ^ 200 := by decide
    refine seq_d fun N4 hN4 => ?_
    simp_wf
    have bq1 := sp.b3
    have bq2 := sp.b4
    have bp1 := sp.b1
    have bp2 := sp.b2
    have e7 : q.1 * 7 + 1 * q.2 = q.1 * 7 + q.2 := by omega
    have y7 : q.2 * 7 ≠ 0 := by omega
    have la := lo_abs (a := q.1 * 7 + 1 * q.2) (b := q.2 * 7) y7
    have le7 : LeF p (K01.lo (q.1 * 7 + 1 * q.2) (q.2 * 7)) := by
      refine lo_le_r (by omega) ?_
      unfold LeF at lq
      have c0 : 0 < q.2 * p.2 := Int.mul_pos q1 p1
      rw [e7, Int.add_mul, ← Int.mul_assoc, Int.mul_assoc q.1, Int.mul_comm 7 p.2, ← Int.mul_assoc]
      omega
    have w7 := word_lh wo sp.low (frac_isF y7) (show lessD (frD (K01.lo (q.1 * 7 + 1 * q.2) (q.2 * 7))) (frD p) = false from decide_eq_false fun z => by unfold LeF at le7; omega)
    show ((q.2 ≠ 0 ∧ (7 : Int) ≠ 0) ∧ (Bd q.1 ∧ Bd q.2 ∧ Bd 1 ∧ Bd 7) ∧ Bd (q.1 * 7 + 1 * q.2) ∧ Bd (q.2 * 7)) ∧ _
    refine ⟨⟨⟨by omega, by decide⟩, ⟨Nat.lt_trans B3 K200, Nat.lt_trans B4 K200, by show (1 : Int).natAbs < 2 ^ 200; decide, by show (7 : Int).natAbs < 2 ^ 200; decide⟩, by show Int.natAbs _ < 2 ^ 200; omega, by show Int.natAbs _ < 2 ^ 200; omega⟩, ⟨by omega, u0, u1⟩, by omega, hN4 _ (seq_d fun N5 hN5 => ?_)⟩
    have gd5 : ∀ d ∈ L ++ [D.lst [D.tup (ts.set u.toNat (D.tup [D.tup (f.map D.int), frD p, frD (K01.lo (q.1 * 7 + 1 * q.2) (q.2 * 7))])), D.tup (os.map D.int), D.int w]], GoodP d := fun d hd => by
      rcases List.mem_append.mp hd with hd | hd
      · exact gd d hd
      · rw [List.mem_singleton.mp hd]
        exact gs f p _ (fun _ h => h) ndf w7 B1 B2 (by omega) (by omega)
    have gl5 : (L ++ [D.lst [D.tup (ts.set u.toNat (D.tup [D.tup (f.map D.int), frD p, frD (K01.lo (q.1 * 7 + 1 * q.2) (q.2 * 7))])), D.tup (os.map D.int), D.int w]]).length ≤ 4 := by rw [List.length_append, List.length_singleton]; omega
    generalize L ++ [D.lst [D.tup (ts.set u.toNat (D.tup [D.tup (f.map D.int), frD p, frD (K01.lo (q.1 * 7 + 1 * q.2) (q.2 * 7))])), D.tup (os.map D.int), D.int w]] = L5 at gd5 gl5 ⊢
    rw [show frD p = D.tup [D.int p.1, D.int p.2] from rfl]
    simp only [↓dDrop, ↓dApp, ↓ownAt, ↓dRel, ↓dLst, ↓dCons, ↓dCall, ↓dC, ↓dVar, ↓dOp, ↓dDat, ↓dNil, ↓dTup, ↓dNew, List.getElem?_cons_zero, List.getElem?_cons_succ, ↓r_rel_dat, ↓r_rd_dat, ↓r_rel_new, ↓r_rd_new, ↓oix_i, ↓st_d, ↓r_seq_dt, ↓atI_0, ↓atI_1, ↓oi_ii, ↓oj_ii, ↓dSet, ↓dUn, ↓oLen, ↓oa_tt, ↓dRet, ↓oc_on, ↓oc_nn, ↓dCallB, ↓isBag]
    simp_wf
    have y3 : 3 * p.2 ≠ 0 := by omega
    have la3 := lo_abs (a := p.1) (b := 3 * p.2) y3
    have le3 : LeF (K01.lo p.1 (3 * p.2)) q := by
      refine lo_le_l (by omega) ?_
      unfold LeF at lq
      have c0 : 0 < p.1 * q.2 := Int.mul_pos p0 q1
      rw [← Int.mul_assoc, Int.mul_comm q.1 3, Int.mul_assoc]
      omega
    have low3 : isLow (frD (K01.lo p.1 (3 * p.2))) = true := by
      show (isFD (frD (K01.lo p.1 (3 * p.2))) && decide (0 < (K01.lo p.1 (3 * p.2)).1)) = true
      rw [frac_isF y3, decide_eq_true (lo_top p0 (by omega))]
      rfl
    have w8 := word_lh wo low3 sp.high (show lessD (frD q) (frD (K01.lo p.1 (3 * p.2))) = false from decide_eq_false fun z => by unfold LeF at le3; omega)
    refine ⟨bd_mul (by show (3 : Int).natAbs < 2 ^ 200; decide) (Nat.lt_trans B2 K200), ⟨y3, Nat.lt_trans B1 K200, by show Int.natAbs _ < 2 ^ 200; omega⟩, ⟨by omega, u0, u1⟩, by omega, hN5 _ (seq_d fun N6 hN6 => ?_)⟩
    have gd6 : ∀ d ∈ L5 ++ [D.lst [D.tup (ts.set u.toNat (D.tup [D.tup (f.map D.int), frD (K01.lo p.1 (3 * p.2)), frD q])), D.tup (os.map D.int), D.int w]], GoodP d := fun d hd => by
      rcases List.mem_append.mp hd with hd | hd
      · exact gd5 d hd
      · rw [List.mem_singleton.mp hd]
        exact gs f _ q (fun _ h => h) ndf w8 (by omega) (by omega) B3 B4
    have gl6 : (L5 ++ [D.lst [D.tup (ts.set u.toNat (D.tup [D.tup (f.map D.int), frD (K01.lo p.1 (3 * p.2)), frD q])), D.tup (os.map D.int), D.int w]]).length ≤ 5 := by rw [List.length_append, List.length_singleton]; omega
    generalize L5 ++ [D.lst [D.tup (ts.set u.toNat (D.tup [D.tup (f.map D.int), frD (K01.lo p.1 (3 * p.2)), frD q])), D.tup (os.map D.int), D.int w]] = L6 at gd6 gl6 ⊢
    simp only [↓dDrop, ↓dApp, ↓ownAt, ↓dRel, ↓dLst, ↓dCons, ↓dCall, ↓dC, ↓dVar, ↓dOp, ↓dDat, ↓dNil, ↓dTup, ↓dNew, List.getElem?_cons_zero, List.getElem?_cons_succ, ↓r_rel_dat, ↓r_rd_dat, ↓r_rel_new, ↓r_rd_new, ↓oix_i, ↓st_d, ↓r_seq_dt, ↓atI_0, ↓atI_1, ↓oi_ii, ↓oj_ii, ↓dSet, ↓dUn, ↓oLen, ↓oa_tt, ↓dRet, ↓oc_on, ↓oc_nn, ↓dCallB, ↓isBag]
    simp_wf
    have w9 : wordD ((u.toNat : Nat) : Int) ts.length (.tup [.tup (([] : List Int).map D.int), frD p, frD q]) = none := word_fo wo .nil (fun x hx => by cases hx) (fun z => by cases z)
    refine ⟨⟨by omega, u0, u1⟩, by omega, hN6 _ (seq_d fun N7 hN7 => ?_)⟩
    have gd7 : ∀ d ∈ L6 ++ [D.lst [D.tup (ts.set u.toNat (D.tup [D.tup [], D.tup [D.int p.1, D.int p.2], frD q])), D.tup (os.map D.int), D.int w]], GoodP d := fun d hd => by
      rcases List.mem_append.mp hd with hd | hd
      · exact gd6 d hd
      · rw [List.mem_singleton.mp hd]
        exact gs [] p q (fun x hx => by cases hx) (by simp) w9 B1 B2 B3 B4
    have gl7 : (L6 ++ [D.lst [D.tup (ts.set u.toNat (D.tup [D.tup [], D.tup [D.int p.1, D.int p.2], frD q])), D.tup (os.map D.int), D.int w]]).length ≤ 6 := by rw [List.length_append, List.length_singleton]; omega
    generalize L6 ++ [D.lst [D.tup (ts.set u.toNat (D.tup [D.tup [], D.tup [D.int p.1, D.int p.2], frD q])), D.tup (os.map D.int), D.int w]] = L7 at gd7 gl7 ⊢
    simp only [↓dDrop, ↓dApp, ↓ownAt, ↓dRel, ↓dLst, ↓dCons, ↓dCall, ↓dC, ↓dVar, ↓dOp, ↓dDat, ↓dNil, ↓dTup, ↓dNew, List.getElem?_cons_zero, List.getElem?_cons_succ, ↓r_rel_dat, ↓r_rd_dat, ↓r_rel_new, ↓r_rd_new, ↓oix_i, ↓st_d, ↓r_seq_dt, ↓atI_0, ↓atI_1, ↓oi_ii, ↓oj_ii, ↓dSet, ↓dUn, ↓oLen, ↓oa_tt, ↓dRet, ↓oc_on, ↓oc_nn, ↓dCallB, ↓isBag]
    simp_wf
    have lo : os.length = m := by rw [po.length_eq, rgI_len]
    have gdL : GoodP (D.lst [D.tup (ts ++ [D.tup [D.tup [], D.tup [D.int 1, D.int 1], D.tup [D.int 1, D.int 1]]]), D.tup (List.map D.int os ++ [D.int ((ts.length : Nat) : Int)]), D.int w]) := by
      rw [lt]
      exact good_of (m := m + 1) (by omega) (by omega) hts.longer (OrdD.longer po) w1 w3
    refine ⟨by omega, by rw [List.length_map]; omega, hN7 _ ?_⟩
    generalize D.lst [D.tup (ts ++ [D.tup [D.tup [], D.tup [D.int 1, D.int 1], D.tup [D.int 1, D.int 1]]]), D.tup (List.map D.int os ++ [D.int ((ts.length : Nat) : Int)]), D.int w] = dL at gdL ⊢
    simp_wf
    intro m' ts' o' w' m1' m5' hts' ho' w1' w3'
    refine ⟨by omega, h _ (by rw [List.length_append]; show L7.length + 2 ≤ 10; omega) fun d hd => ?_⟩
    rcases List.mem_append.mp hd with hd | hd
    · exact gd7 d hd
    · rcases List.mem_cons.mp hd with rfl | hd
      · exact good_of m1' (by omega) hts' ho' w1' w3'
      · rw [List.mem_singleton.mp hd]
        exact gdL
theorem pl_lst {m : Nat} {ds : List D} (h : ∀ d ∈ ds, Pl m d) : Pl (m + 1) (.lst ds) := by
  obtain ⟨a, b, c, e⟩ := pls h
  refine ⟨a, by simp [D.py, PyData.canLay0, b], ?_, by simp [D.py, PyData.eqv, e]⟩
  simp only [D.py, PyData.depth]
  omega
theorem Pl.up {m n : Nat} {d : D} (h : Pl m d) (l : m ≤ n := by decide) : Pl n d := ⟨h.flat, h.lay, Nat.le_trans h.dp l, h.self⟩
def sameP (t o w t' o' w' : D) : Bool := PyData.eqv t.py t'.py && PyData.eqv o.py o'.py && PyData.eqv w.py w'.py
theorem same_comm {t o w t' o' w' : D} : sameP t o w t' o' w' = sameP t' o' w' t o w := by
  unfold sameP
  rw [PySem.W.eqv_comm t.py, PySem.W.eqv_comm o.py, PySem.W.eqv_comm w.py]
theorem same_lst {t o w t' o' w' : D} : PyData.eqv (D.lst [t', o', w']).py (D.lst [t, o, w]).py = sameP t o w t' o' w' := by
  rw [same_comm]
  unfold sameP
  simp [D.py, D.pys, PyData.eqv, PyData.eqvAll, Bool.and_assoc]
theorem bools_fit {a b c : Bool} : Fit 0 40 1 (.lst [.bl a, .bl b, .bl c]) := (fit_lst (L := 3) (fits_cons fit_bl (fits_cons fit_bl (fits_cons fit_bl fits_nil))) (by simp)).up
theorem nob_of {v : D} {n : String} {C : Addr} (hn : tyD v = some n) : (match (generalizing := false) v with | .obj C2 _ _ => C2 = C | _ => True) := by
  cases v <;> first | trivial | cases hn
theorem emp_app {x : Str} : Str.empty ++ x = x := by
  show (⟨#[] ++ x.cps⟩ : Str) = x
  cases x
  simp
def wordB (n w : Nat) : Bool := fitB 10 200 1 (.str (wordsS ((n : Nat) : Int) ((w : Nat) : Int)))
theorem words_all : ((List.range 6).all fun n => (List.range 4).all fun w => wordB n w) = true := by decide +kernel
theorem words_fit {n : Nat} {w : Int} (n5 : n ≤ 5) (w1 : 1 ≤ w) (w3 : w ≤ 3) : Fit 10 200 1 (.str (wordsS ((n : Nat) : Int) w)) := by
  obtain ⟨k, rfl⟩ := Int.eq_ofNat_of_zero_le (show (0 : Int) ≤ w by omega)
  exact fit_of (List.all_eq_true.mp (List.all_eq_true.mp words_all n (List.mem_range.mpr (by omega))) k (List.mem_range.mpr (by omega)))
theorem words_eq {n w : Int} : Str.ofString (toString n) ++ Str.ofString " tasks, " ++ Str.ofString (toString w) ++ Str.ofString " workers" = wordsS n w := by
  unfold wordsS
  rw [emp_app]
abbrev n_law_k04 : List Str := ["_law_script", "_law_deck_here", "_law_turn", "_law_tasks_here", "_law_order", "_law_workers", "_law_plan", "_law_numbers", "_law_number", "_law_words", "_law_parts_here", "_law_value", "_law_other", "_law_same", "_law_told", "_law_k"]
abbrev t_law_k04 (C_Plan : Addr) (C_BadPlan : Addr) (C_NoTask : Addr) : DTS := (dSeq (dDeck 1 0)
  (dSeq (dFor (diRg1 (dCons (dC (.int 4)) dNil)) (dName 2) (dSeq (dAsg (dCallB 1 0 fParts dNil) (dgLst 3 (dgCons (dName 3) (dgCons (dName 4) (dgCons (dName 5) dgNil)))))
  (dSeq (dSet 6 (dCall 3 (fPlan C_Plan C_BadPlan) (fun _ => False) (dCons (dRel (dVar 3)) (dCons (dRel (dVar 4)) (dCons (dRel (dVar 5)) dNil)))))
  (dSeq (dSet 7 (dRel (dOp oCatS (dLstRg (dRel (dUn oLen (dVar 3)))) (dLc (diRg1 (dCons (dC (.int 6)) dNil)) (dName 15) dYes (dCallB 1 1 fOddN (dCons (dRel (dUn oLen (dVar 3))) dNil)) [15]))))
  (dSeq (dFor (diSeq (dVar 7)) (dName 8) (dIf (dTst (dOp (oStrs true) (dUn oRepr (dDat (dCall 2 (fGot C_Plan) (fun _ => False) (dCons (dRel (dVar 6)) (dCons (dRel (dVar 8)) dNil))))) (dUn oRepr (dDat (dCall 2 fDue4 (fun _ => False) (dCons (dRel (dVar 3)) (dCons (dRel (dVar 8)) dNil))))))) (dRet (dDat (dC (.bl false)))) dNext))
  (dSeq (dSet 9 (dRel (dOp oAdd (dOp oAdd (dOp oAdd (dUn oStr (dUn oLen (dVar 3))) (dDat (dC (.str " tasks, ")))) (dUn oStr (dVar 5))) (dDat (dC (.str " workers"))))))
  (dSeq (dIf (dTst (dOp (oStrs true) (dUn oRepr (dLst (dCons (dLenO C_Plan (fLenP C_Plan) (dRel (dVar 6))) (dCons (dStrO C_Plan (fStrP C_Plan) (dRel (dVar 6))) dNil)))) (dUn oRepr (dLst (dCons (dRel (dUn oLen (dVar 3))) (dCons (dRel (dVar 9)) dNil)))))) (dRet (dDat (dC (.bl false)))) dNext)
  (dSeq (dFor (diSeq (dDat (dCallB 1 3 fOthers (dCons (dRel (dVar 3)) (dCons (dRel (dVar 4)) (dCons (dRel (dVar 5)) dNil)))))) (dName 10) (dIf (dTst (dOp oLt (dUn oLen (dOp oIx (dVar 10) (dDat (dC (.int 0))))) (dDat (dC (.int 6))))) (dSeq (dPar2 12 13 (dDat (dCall 3 (fPlan C_Plan C_BadPlan) (fun _ => False) (dCons (dRel (dOp oIx (dVar 10) (dDat (dC (.int 0))))) (dCons (dRel (dOp oIx (dVar 10) (dDat (dC (.int 1))))) (dCons (dRel (dOp oIx (dVar 10) (dDat (dC (.int 2))))) dNil))))) (dOp oEq (dVar 10) (dLst (dCons (dRel (dVar 3)) (dCons (dRel (dVar 4)) (dCons (dRel (dVar 5)) dNil))))))
  (dSeq (dSet 14 (dRel (dLst (dCons (dRel (dOp (oCmp C_Plan false (fEqA C_Plan)) (dVar 6) (dVar 12))) (dCons (dRel (dOp (oCmp C_Plan true (fEqA C_Plan)) (dVar 6) (dVar 12))) (dCons (dRel (dOp (oCmp C_Plan false (fEqA C_Plan)) (dVar 12) (dVar 6))) dNil))))))
  (dIf (dTst (dOp (oStrs true) (dUn oRepr (dVar 14)) (dUn oRepr (dLst (dCons (dRel (dVar 13)) (dCons (dRel (dNotV (dVar 13))) (dCons (dRel (dVar 13)) dNil))))))) (dRet (dDat (dC (.bl false)))) dNext))) dNext))
  (dSeq (dFor (diSeq (dLst (dCons (dC .non) (dCons (dRel (dVar 3)) (dCons (dTup (dCons (dRel (dVar 3)) (dCons (dRel (dVar 4)) (dCons (dRel (dVar 5)) dNil)))) (dCons (dRel (dVar 9)) (dCons (dRel (dVar 5)) (dCons (dC (.bl true)) (dCons (dRel (dLst dNil)) (dCons (dCallB 1 0 fOdd dNil) dNil)))))))))) (dName 11) (dIf (dTst (dOp (oStrs true) (dUn oRepr (dLst (dCons (dRel (dOp (oCmp C_Plan false (fEqA C_Plan)) (dVar 6) (dVar 11))) (dCons (dRel (dOp (oCmp C_Plan true (fEqA C_Plan)) (dVar 6) (dVar 11))) dNil)))) (dUn oRepr (dNew [(.bl false), (.bl true)])))) (dRet (dDat (dC (.bl false)))) dNext))
  (dIf (dTst (dOp (oStrs true) (dUn oRepr (dDat (dCall 1 (fTold C_Plan) (fun _ => False) (dCons (dRel (dVar 6)) dNil)))) (dUn oRepr (dLst (dCons (dRel (dVar 3)) (dCons (dRel (dVar 4)) (dCons (dRel (dVar 5)) dNil))))))) (dRet (dDat (dC (.bl false)))) dNext))))))))))
  (dRet (dDat (dC (.bl true))))))
theorem rd_law_k04 {C_Plan : Addr} {C_BadPlan : Addr} {C_NoTask : Addr} : ∀ ns : List Int, ns.length ≤ 63 → t_law_k04 C_Plan C_BadPlan C_NoTask lEnds (env0 n_law_k04 [.lst (ns.map D.int)]) := by
  unfold t_law_k04 n_law_k04
  intro ns l63
  refine seq_d fun N hN => ?_
  simp_wf
  refine ⟨⟨ns, rfl, l63⟩, fun b => hN _ (seq_d fun N2 hN2 => ?_)⟩
  simp only [dFor_eq]
  simp_wf
  refine ⟨by decide, by decide, for_in (fun i e => ∃ x2 x3 x4 x5 x6 x7 x8 x9 x10 x11 x12 x13 x14, e = [.dat (.lst (ns.map D.int)), .bag b, x2, x3, x4, x5, x6, x7, x8, x9, x10, x11, x12, x13, x14, .no]) ⟨_, _, _, _, _, _, _, _, _, _, _, _, _, rfl⟩ ?_ ?_⟩
  · rintro i d e hd ⟨x2, x3, x4, x5, x6, x7, x8, x9, x10, x11, x12, x13, x14, rfl⟩ N3 hN3
    simp_wf
    refine seq_d fun N4 hN4 => ?_
    simp_wf
    intro m ts o w m1 m5 hts ho w1 w3
    simp_wf
    refine hN4 _ (seq_d fun N5 hN5 => ?_)
    have lt : ts.length = m := hts.1
    obtain ⟨line, pm, hall⟩ := hts.2
    have fts : ∀ d ∈ ts, Fit 134 13000 8 d := fun d hd => by
      obtain ⟨j, hj⟩ := List.getElem?_of_mem hd
      exact ((hall j d hj).fit pm m5).up
    have ft : Fit 134 65100 9 (.tup ts) := (fit_tup (L := 5) fts (by omega)).up
    have fo := (ho.fit m5).up (b' := 134) (n' := 65100) (m' := 9)
    have fw : Fit 134 65100 9 (.int w) := (fit_int (b := 10) (by have k10 : (2 : Nat) ^ 10 = 1024 := rfl; omega)).up
    have fl : Fit 134 400000 11 (.lst [.tup ts, o, .int w]) := (fit_lst (L := 3) (fits_cons ft (fits_cons fo (fits_cons fw fits_nil))) (by simp)).up
    have pe := plan_ok m1 m5 hts ho w1 w3
    simp_wf
    refine ⟨⟨ft.small, fo.small, fw.small⟩, fun _ => hN5 _ (seq_d fun N6 hN6 => ?_), fun n y z => by rw [pe] at z; cases z⟩
    simp_wf
    simp only [dLc_eq]
    simp_wf
    have fi : ∀ x : Int, -10 ≤ x → x ≤ 10 → Fit 131 300 6 (.int x) := fun x h0 h1 => (fit_int (b := 10) (by have k10 : (2 : Nat) ^ 10 = 1024 := rfl; omega)).up
    have lr : (rgD 0 ((ts.length : Nat) : Int).toNat).length = ts.length := by unfold rgD; rw [List.length_map, List.length_range]; omega
    refine ⟨by omega, by decide, by decide, rfl, by decide, fun j acc => ∀ d ∈ acc, Fit 131 300 6 d, fits_nil, ?_, ?_⟩
    · rintro j d2 acc hd2 lacc ha
      simp_wf
      refine ⟨⟨by omega, by omega⟩, fun d3 f3 => fits_app ha (fits_cons f3 fits_nil)⟩
    · rintro acc lacc ha
      have l6 : acc.length ≤ 6 := lacc
      simp_wf
      refine ⟨by rw [lr]; omega, hN6 _ (seq_d fun N7 hN7 => ?_)⟩
      have fns : ∀ d ∈ rgD 0 ((ts.length : Nat) : Int).toNat ++ acc, Fit 131 300 6 d := fits_app (fun d hd => by
        obtain ⟨j, hj⟩ := List.getElem?_of_mem hd
        obtain ⟨jl, rfl⟩ := rgD_get hj
        exact fi _ (by omega) (by omega)) ha
      generalize rgD 0 ((ts.length : Nat) : Int).toNat ++ acc = nums at fns ⊢
      simp only [dFor_eq]
      simp_wf
      refine for_in (fun i e => ∃ x8, e = [.dat (.lst (ns.map D.int)), .bag b, .dat d, .dat (.tup ts), .dat o, .dat (.int w), .dat (.obj C_Plan pNs [.tup ts, o, .int w]), .dat (.lst nums), x8, x9, x10, x11, x12, x13, x14, .no]) ⟨_, rfl⟩ ?_ ?_
      · rintro i2 n e hn ⟨x8, rfl⟩ N8 hN8
        have fn := fns n (List.mem_of_getElem? hn)
        have fd : Fit 134 70000 10 (due4 ts n) := by
          unfold due4
          by_cases c : isNum ts.length n = true
          · rw [if_pos c]
            obtain ⟨j, rfl, j0, j1⟩ := isNum_int c
            dsimp only
            have lj : j.toNat < ts.length := by omega
            rw [List.getElem?_eq_getElem lj, Option.getD_some]
            have f1 : Fit 0 20 0 (.str "task") := fit_of (by decide +kernel)
            exact (fit_lst (L := 2) (fits_cons (f1.up (b' := 134) (n' := 13000) (m' := 8)) (fits_cons (fts _ (List.getElem_mem lj)) fits_nil)) (by simp)).up
          · rw [if_neg c]
            have fb : Fit 0 20 0 (.str "none") := fit_of (by decide +kernel)
            exact (fit_lst (L := 4) (fits_cons (fb.up (b' := 134) (n' := 300) (m' := 6)) (fits_cons fn.up (fits_cons fit_bl.up (fits_cons fit_bl.up fits_nil)))) (by simp)).up
        simp_wf
        refine if_d fun T U hT hU => ?_
        simp_wf
        refine ⟨⟨rfl, rfl, by omega, small_no fn.small⟩, fd.r, ⟨by omega, small_no fn.small⟩, fd.r, ?_⟩
        rw [if_neg (fun z => z rfl)]
        exact hU _ (hN8 _ ⟨_, rfl⟩)
      · rintro e ⟨x8, rfl⟩
        refine hN7 _ (seq_d fun N8 hN8 => ?_)
        simp_wf
        have s1 := str_n (n := ((ts.length : Nat) : Int)) (by omega) (by omega)
        have s2 := str_n (n := w) (by omega) (by omega)
        have s3 : (Str.ofString " tasks, ").length ≤ 20 := by decide +kernel
        have s4 : (Str.ofString " workers").length ≤ 20 := by decide +kernel
        have a1 := app_len s1 s3
        have a2 := app_len a1 s2
        refine ⟨log1920 (by omega), by omega, log1920 (by omega), by omega, by omega, hN8 _ (seq_d fun N9 hN9 => if_d fun T U hT hU => ?_)⟩
        rw [words_eq]
        have fW := words_fit (n := ts.length) (by omega) w1 w3
        have f2 : Fit 10 700 2 (.lst [.int ((ts.length : Nat) : Int), .str (wordsS ((ts.length : Nat) : Int) w)]) := (fit_lst (L := 2) (b := 10) (n := 250) (m := 1) (fits_cons (fit_int (b := 10) (by have k10 : (2 : Nat) ^ 10 = 1024 := rfl; omega)).up (fits_cons fW.up fits_nil)) (by simp)).up
        generalize hw : wordsS ((ts.length : Nat) : Int) w = words at fW f2 ⊢
        simp_wf
        have k63 : (5 : Int) < 2 ^ 63 := by decide
        refine ⟨⟨rfl, rfl⟩, _, rfl, by omega, by omega, ⟨rfl, rfl, by omega, by omega, by omega⟩, _, rfl, ?_⟩
        rw [hw]
        refine ⟨f2.r, f2.r, ?_⟩
        rw [if_neg (fun z => z rfl)]
        refine hU _ (hN9 _ (seq_d fun N10 hN10 => ?_))
        simp only [dFor_eq]
        simp_wf
        refine ⟨⟨m, ⟨m1, m5⟩, hts, ho, w1, w3⟩, fun L lL gL => ?_⟩
        simp_wf
        refine for_in (fun i e => ∃ x10 x12 x13 x14, e = [.dat (.lst (ns.map D.int)), .bag b, .dat d, .dat (.tup ts), .dat o, .dat (.int w), .dat (.obj C_Plan pNs [.tup ts, o, .int w]), .dat (.lst nums), x8, .dat (.str words), x10, x11, x12, x13, x14, .no]) ⟨_, _, _, _, rfl⟩ ?_ ?_
        · rintro i2 d2 e hd2 ⟨x10, x12, x13, x14, rfl⟩ N11 hN11
          obtain ⟨ts', o', w', rfl, l6', good, plt, plo⟩ := (gL d2 (List.mem_of_getElem? hd2)).ex
          simp_wf
          refine if_d fun T U hT hU => ?_
          simp_wf
          by_cases c : ts'.length < 6
          · rw [if_pos (by omega)]
            obtain ⟨pe', sm1, sm2, sm3⟩ := good c
            refine hT _ (seq_d fun N12 hN12 => ?_)
            simp_wf
            have pw : Pl 3 (.int w) := pl_int
            have pw' : Pl 3 (.int w') := pl_int
            have pt : Pl 3 (.tup ts) := hts.pl
            have po : Pl 3 o := ho.pl.up
            have po' : Pl 3 o' := plo.up
            have pL : ∀ {t o w : D}, Pl 3 t → Pl 3 o → Pl 3 w → Pl 4 (.lst [t, o, w]) := fun h1 h2 h3 => pl_lst fun d hd => by
              rcases List.mem_cons.mp hd with rfl | hd
              · exact h1
              · rcases List.mem_cons.mp hd with rfl | hd
                · exact h2
                · rw [List.mem_singleton.mp hd]; exact h3
            refine ⟨⟨sm1, sm2, sm3⟩, fun _ => ⟨(pL plt po' pw').ok, (pL pt po pw).ok, hN12 _ (seq_d fun N13 hN13 => ?_)⟩, fun n y z => by rw [pe'] at z; cases z⟩
            rw [same_lst]
            have c1 : ∀ (k : D → Prop), k (.bl (sameP (.tup ts) o (.int w) (.tup ts') o' (.int w'))) → fEqA C_Plan [.obj C_Plan pNs [.tup ts, o, .int w], .obj C_Plan pNs [.tup ts', o', .int w']] k fun _ => False := fun k hk => ⟨⟨rfl, rfl⟩, .inl ⟨_, _, _, rfl, ⟨pt.ok, po.ok, pw.ok, plt.ok, po'.ok, pw'.ok⟩, hk⟩⟩
            have c2 : ∀ (k : D → Prop), k (.bl (sameP (.tup ts) o (.int w) (.tup ts') o' (.int w'))) → fEqA C_Plan [.obj C_Plan pNs [.tup ts', o', .int w'], .obj C_Plan pNs [.tup ts, o, .int w]] k fun _ => False := fun k hk => ⟨⟨rfl, rfl⟩, .inl ⟨_, _, _, rfl, ⟨plt.ok, po'.ok, pw'.ok, pt.ok, po.ok, pw.ok⟩, by rw [same_comm] at hk; exact hk⟩⟩
            generalize sameP (.tup ts) o (.int w) (.tup ts') o' (.int w') = sp at c1 c2 ⊢
            simp_wf
            refine c1 _ ⟨_, rfl, c1 _ ⟨_, rfl, c2 _ ⟨_, rfl, hN13 _ (if_d fun T U hT hU => ?_)⟩⟩⟩
            simp_wf
            refine ⟨bools_fit.r, bools_fit.r, ?_⟩
            rw [if_neg (fun z => z trivial)]
            exact hU _ (hN11 _ ⟨_, _, _, _, rfl⟩)
          · rw [if_neg (by omega)]
            refine hU _ ?_
            simp_wf
            exact hN11 _ ⟨_, _, _, _, rfl⟩
        · rintro e ⟨x10, x12, x13, x14, rfl⟩
          refine hN10 _ (seq_d fun N11 hN11 => ?_)
          simp only [dFor_eq]
          simp only [↓diSeq, ↓dRel, ↓dLst, ↓dCons, ↓dC, ↓dVar, ↓dUn, ↓dOp, ↓dDat, ↓dNil, ↓dTup, ↓dNew, ↓dCallB, List.getElem?_cons_zero, List.getElem?_cons_succ, ↓r_rel_dat, ↓r_rd_dat, ↓r_rel_new, ↓r_rd_new, ↓oa_ii, ↓on_i]
          simp_wf
          intro d1 f1
          have fvs : ∀ v ∈ [D.non, D.tup ts, D.tup [D.tup ts, o, D.int w], D.str words, D.int w, D.bl true, D.lst [], d1], ∃ n, tyD v = some n := fun v hv => by
            simp only [List.mem_cons, List.not_mem_nil, or_false] at hv
            rcases hv with rfl | rfl | rfl | rfl | rfl | rfl | rfl | rfl
            · exact ⟨_, rfl⟩
            · exact ⟨_, rfl⟩
            · exact ⟨_, rfl⟩
            · exact ⟨_, rfl⟩
            · exact ⟨_, rfl⟩
            · exact ⟨_, rfl⟩
            · exact ⟨_, rfl⟩
            · have := small_no f1.small
              cases v with
              | obj _ _ _ => cases this
              | _ => exact ⟨_, rfl⟩
          generalize [D.non, D.tup ts, D.tup [D.tup ts, o, D.int w], D.str words, D.int w, D.bl true, D.lst [], d1] = vs at fvs ⊢
          refine for_in (fun i e => ∃ x11, e = [.dat (.lst (ns.map D.int)), .bag b, .dat d, .dat (.tup ts), .dat o, .dat (.int w), .dat (.obj C_Plan pNs [.tup ts, o, .int w]), .dat (.lst nums), x8, .dat (.str words), x10, x11, x12, x13, x14, .no]) ⟨_, rfl⟩ ?_ ?_
          · rintro i2 v e hv2 ⟨x11, rfl⟩ N12 hN12
            obtain ⟨n, hn⟩ := fvs v (List.mem_of_getElem? hv2)
            have c1 : ∀ (k : D → Prop), k (.bl false) → fEqA C_Plan [.obj C_Plan pNs [.tup ts, o, .int w], v] k fun _ => False := fun k hk => ⟨⟨rfl, rfl⟩, .inr ⟨⟨n, hn⟩, hk⟩⟩
            have nob := nob_of (C := C_Plan) hn
            have f2 : Fit 0 40 1 (.lst [.bl false, .bl true]) := (fit_lst (L := 2) (fits_cons fit_bl (fits_cons fit_bl fits_nil)) (by simp)).up
            simp_wf
            refine if_d fun T U hT hU => ?_
            simp_wf
            refine ⟨nob, c1 _ ⟨_, rfl, nob, c1 _ ⟨_, rfl, f2.r, f2.r, ?_⟩⟩⟩
            rw [if_neg (fun z => z rfl)]
            exact hU _ (hN12 _ ⟨_, rfl⟩)
          · rintro e ⟨x11, rfl⟩
            refine hN11 _ (if_d fun T U hT hU => ?_)
            simp_wf
            refine ⟨⟨rfl, rfl⟩, fl.r, fl.r, ?_⟩
            rw [if_neg (fun z => z rfl)]
            exact hU _ (hN3 _ ⟨_, _, _, _, _, _, _, _, _, _, _, _, _, rfl⟩)
  · rintro e ⟨x2, x3, x4, x5, x6, x7, x8, x9, x10, x11, x12, x13, x14, rfl⟩
    refine hN2 _ ?_
    simp_wf
end KK
namespace Wk04
open PySem PySem.Spec PyProof.Rows L2 LL DL K01 KK
def topS (i : Nat) : Stmt := PySem.Challenge.pw_lesslater_k04_plans_asked.main.body.getD i (.Pass ⟨0, 0, 0, 0⟩)
section
variable {P : Program} {w : World} {K : PySem.W.Frag} {mg : Str → Option Value} {base : Heap}
abbrev s_Plan___eq___any : Stmt := inC (topS 20) 7
theorem sc_Plan___eq___any : FnScope ["self", "other"] ["self", "other"] (defScope s_Plan___eq___any) := ⟨rfl, rfl, rfl, by decide +kernel, rfl, by decide +kernel, by decide +kernel⟩
theorem ok_Plan___eq___any {f : Addr} {fd : FuncData} {C_Plan : Addr} (Fn : Fun K "__eq__" "Plan.__eq__" s_Plan___eq___any f fd)
    (c_Plan : Cls K C_Plan)
    (na_Plan_held_workers : NoAttr K C_Plan "held_workers")
    (na_Plan_held_order : NoAttr K C_Plan "held_order")
    (na_Plan_held_tasks : NoAttr K C_Plan "held_tasks")
    (is_Plan : IsC K C_Plan)
    (gc_Plan : mg "Plan" = some (.ref C_Plan))
    (m_isinstance : mg "isinstance" = none) : FnOk P w K mg base CX0 1 f fd ["self", "other"] (spD K 2 (fEqA C_Plan)) := by
  refine fn_d (k := 0) Fn sc_Plan___eq___any rfl ?_
  rintro X cdv A out s H E rfl hr
  exact ⟨t_Plan___eq___any C_Plan, fun F0 => (dss_one (ds_ret (dv_and (dv_of (de_isC is_Plan m_isinstance (de_of (dv_var (pv 1))) (pe_glob (v := .ref C_Plan) (by rfl) gc_Plan rfl))) (dv_and (deq hr.units (dv_of (de_fld c_Plan na_Plan_held_tasks (de_of (dv_var (pv 0))))) (dv_of (de_fld c_Plan na_Plan_held_tasks (de_of (dv_var (pv 1)))))) (dv_and (deq hr.units (dv_of (de_fld c_Plan na_Plan_held_order (de_of (dv_var (pv 0))))) (dv_of (de_fld c_Plan na_Plan_held_order (de_of (dv_var (pv 1)))))) (dv_one (deq hr.units (dv_of (de_fld c_Plan na_Plan_held_workers (de_of (dv_var (pv 0))))) (dv_of (de_fld c_Plan na_Plan_held_workers (de_of (dv_var (pv 1)))))))))))), rd_Plan___eq___any⟩
abbrev s_all_ahead : Stmt := topS 16
theorem sc_all_ahead : FnScope ["tasks", "number", "found", "waiting", "before"] ["tasks", "number"] (defScope s_all_ahead) := ⟨rfl, rfl, rfl, by decide +kernel, rfl, by decide +kernel, by decide +kernel⟩
theorem ok_all_ahead {f : Addr} {fd : FuncData} (Fn : Fun K "all_ahead" "all_ahead" s_all_ahead f fd)
    (m_list : mg "list" = none) : FnOk P w K mg base CX0 1 f fd ["tasks", "number"] (spD K 2 fAhead) := by
  refine fn_d (k := 0) Fn sc_all_ahead rfl ?_
  rintro X cdv A out s H E rfl hr
  exact ⟨t_all_ahead, fun F0 => (dss_cons (ds_own (i := 2) sc_all_ahead.nd (dv_lst da_nil))
    (dss_cons (ds_own (i := 3) sc_all_ahead.nd (dv_t1 call_list_of l_list m_list (dix (dix (dv_var (pv 0)) (dv_var (pv 1))) (dv_of de_int))))
    (dss_cons (ds_while PassesOwn.never (dt_tru (dv_var (pv 3))) (dss_cons (ds_set (i := 4) sc_all_ahead.nd (de_of (dv_pop (pv 3))))
    (dss_one (ds_if (tni (dv_var (pv 4)) (dv_var (pv 2))) (dss_cons (ds_expr (dv_app (pv 2) (de_of (dv_var (pv 4)))))
    (dss_one (ds_expr (dv_ext (pv 3) (dix (dix (dv_var (pv 0)) (dv_var (pv 4))) (dv_of de_int)))))) dss_nil))))
    (dss_one (ds_ret (dv_var (pv 2))))))), rd_all_ahead⟩
abbrev s_is_whole_number : Stmt := topS 8
theorem sc_is_whole_number : FnScope ["value"] ["value"] (defScope s_is_whole_number) := ⟨rfl, rfl, rfl, by decide +kernel, rfl, by decide +kernel, by decide +kernel⟩
theorem ok_is_whole_number {f : Addr} {fd : FuncData} (Fn : Fun K "is_whole_number" "is_whole_number" s_is_whole_number f fd)
    (m_isinstance : mg "isinstance" = none)
    (m_bool : mg "bool" = none)
    (m_int : mg "int" = none) : FnOk P w K mg base CX0 1 f fd ["value"] (spD K 1 fWhole) := by
  refine fn_d (k := 0) Fn sc_is_whole_number rfl ?_
  rintro X cdv A out s H E rfl hr
  exact ⟨t_is_whole_number, fun F0 => (dss_one (ds_ret (dv_and (dv_isi (T := "int") m_isinstance m_int (dv_var (pv 0))) (dv_one (dv_not (dv_isi (T := "bool") m_isinstance m_bool (dv_var (pv 0)))))))), rd_is_whole_number⟩
abbrev s_is_number : Stmt := topS 13
theorem sc_is_number : FnScope ["value", "many"] ["value", "many"] (defScope s_is_number) := ⟨rfl, rfl, rfl, by decide +kernel, rfl, by decide +kernel, by decide +kernel⟩
theorem ok_is_number {f : Addr} {fd : FuncData} {f_is_whole_number : Addr} {fd_is_whole_number : FuncData} (Fn : Fun K "is_number" "is_number" s_is_number f fd)
    (T_is_whole_number : FnT P w K mg base CX0 1 "is_whole_number" f_is_whole_number fd_is_whole_number ["value"] (spD K 1 fWhole)) : FnOk P w K mg base CX0 2 f fd ["value", "many"] (spD K 2 fIsNum) := by
  refine fn_d (k := 1) Fn sc_is_number rfl ?_
  rintro X cdv A out s H E rfl hr
  exact ⟨t_is_number, fun F0 => (dss_one (ds_ret (dv_and (dv_of (dcall T_is_whole_number hr (da_cons (de_of (dv_var (pv 0))) da_nil))) (dv_one (dlelt (dv_of de_int) (dv_var (pv 0)) (dv_var (pv 1))))))), rd_is_number⟩
abbrev s_is_ascending : Stmt := topS 14
theorem sc_is_ascending : FnScope ["value", "many", "one", "other", "item"] ["value", "many"] (defScope s_is_ascending) := ⟨rfl, rfl, rfl, by decide +kernel, rfl, by decide +kernel, by decide +kernel⟩
theorem ok_is_ascending {f : Addr} {fd : FuncData} {f_is_number : Addr} {fd_is_number : FuncData} (Fn : Fun K "is_ascending" "is_ascending" s_is_ascending f fd)
    (m_zip : mg "zip" = none)
    (m_all : mg "all" = none)
    (T_is_number : FnT P w K mg base CX0 2 "is_number" f_is_number fd_is_number ["value", "many"] (spD K 2 fIsNum))
    (m_isinstance : mg "isinstance" = none)
    (m_tuple : mg "tuple" = none) : FnOk P w K mg base CX0 3 f fd ["value", "many"] (spD K 2 fAsc) := by
  refine fn_d (k := 2) Fn sc_is_ascending rfl ?_
  rintro X cdv A out s H E rfl hr
  exact ⟨t_is_ascending, fun F0 => (dss_cons (ds_if (dt_w (dw_or (dt_not (dt_val (dv_isi (T := "tuple") m_isinstance m_tuple (dv_var (pv 0))))) (dw_or1 (dt_not (dt_val (dv_b1 (cr_all rfl) l_all m_all (dv_lc [("item", 4)] rfl sc_is_ascending.nd (di_seq (dv_var (pv 0))) (blkOk_by (N := ["value", "many", "one", "other", "item"]) (sc := defScope s_is_ascending) (own := [("item", 4)]) (by decide +kernel)) (fun F1 s1 _ _ _ _ _ => (dg_name (i := 4) sc_is_ascending.nd)) (fun F1 s1 _ _ _ _ _ => dts_nil) (fun F1 s1 _ _ _ _ _ => (dcall T_is_number hr (da_cons (de_of (dv_var (pv 4))) (da_cons (de_of (dv_var (pv 1))) da_nil))))))))))) (dss_one (ds_ret (dv_of de_bl))) dss_nil)
    (dss_one (ds_ret (dv_b1 (cr_all rfl) l_all m_all (dv_lc [("one", 2), ("other", 3)] rfl sc_is_ascending.nd (di_zip m_zip (da_cons (de_of (dv_var (pv 0))) (da_cons (de_of (dv_sl (dv_var (pv 0)) (do_some de_int) do_none)) da_nil))) (blkOk_by (N := ["value", "many", "one", "other", "item"]) (sc := defScope s_is_ascending) (own := [("one", 2), ("other", 3)]) (by decide +kernel)) (fun F1 s1 _ _ _ _ _ => (dg_tup (n := 2) rfl (dgs_cons (dg_name (i := 2) sc_is_ascending.nd) (dgs_cons (dg_name (i := 3) sc_is_ascending.nd) dgs_nil)))) (fun F1 s1 _ _ _ _ _ => dts_nil) (fun F1 s1 _ _ _ _ _ => (de_of (dlt (dv_var (pv 2)) (dv_var (pv 3)))))))))), rd_is_ascending⟩
abbrev s_is_below : Stmt := topS 11
theorem sc_is_below : FnScope ["one", "other"] ["one", "other"] (defScope s_is_below) := ⟨rfl, rfl, rfl, by decide +kernel, rfl, by decide +kernel, by decide +kernel⟩
theorem ok_is_below {f : Addr} {fd : FuncData} (Fn : Fun K "is_below" "is_below" s_is_below f fd) : FnOk P w K mg base CX0 1 f fd ["one", "other"] (spD K 2 fLess) := by
  refine fn_d (k := 0) Fn sc_is_below rfl ?_
  rintro X cdv A out s H E rfl hr
  exact ⟨t_is_below, fun F0 => (dss_one (ds_ret (dlt (dmul (dix (dv_var (pv 0)) (dv_of de_int)) (dix (dv_var (pv 1)) (dv_of de_int))) (dmul (dix (dv_var (pv 1)) (dv_of de_int)) (dix (dv_var (pv 0)) (dv_of de_int)))))), rd_is_below⟩
abbrev s_common_divisor : Stmt := topS 9
theorem sc_common_divisor : FnScope ["one", "other"] ["one", "other"] (defScope s_common_divisor) := ⟨rfl, rfl, rfl, by decide +kernel, rfl, by decide +kernel, by decide +kernel⟩
theorem ok_common_divisor {f : Addr} {fd : FuncData} (Fn : Fun K "common_divisor" "common_divisor" s_common_divisor f fd)
    (m_abs : mg "abs" = none) : FnOk P w K mg base CX0 1 f fd ["one", "other"] (spD K 2 fCd) := by
  refine fn_d (k := 0) Fn sc_common_divisor rfl ?_
  rintro X cdv A out s H E rfl hr
  exact ⟨t_common_divisor, fun F0 => (dss_cons (ds_while PassesOwn.never (tne hr.units (dv_var (pv 1)) (dv_of de_int)) (dss_one (ds_par (i := 0) (j := 1) rfl sc_common_divisor.nd (dv_var (pv 1)) (dmod (dv_var (pv 0)) (dv_var (pv 1))))))
    (dss_one (ds_ret (dv_b1 call_abs l_abs m_abs (dv_var (pv 0)))))), rd_common_divisor⟩
abbrev s_is_fraction : Stmt := topS 10
theorem sc_is_fraction : FnScope ["value", "top", "bottom"] ["value"] (defScope s_is_fraction) := ⟨rfl, rfl, rfl, by decide +kernel, rfl, by decide +kernel, by decide +kernel⟩
theorem ok_is_fraction {f : Addr} {fd : FuncData} {f_common_divisor : Addr} {fd_common_divisor : FuncData} {f_is_whole_number : Addr} {fd_is_whole_number : FuncData} (Fn : Fun K "is_fraction" "is_fraction" s_is_fraction f fd)
    (T_common_divisor : FnT P w K mg base CX0 1 "common_divisor" f_common_divisor fd_common_divisor ["one", "other"] (spD K 2 fCd))
    (T_is_whole_number : FnT P w K mg base CX0 1 "is_whole_number" f_is_whole_number fd_is_whole_number ["value"] (spD K 1 fWhole))
    (m_len : mg "len" = none)
    (m_isinstance : mg "isinstance" = none)
    (m_tuple : mg "tuple" = none) : FnOk P w K mg base CX0 2 f fd ["value"] (spD K 1 fIsF) := by
  refine fn_d (k := 1) Fn sc_is_fraction rfl ?_
  rintro X cdv A out s H E rfl hr
  exact ⟨t_is_fraction, fun F0 => (dss_cons (ds_if (dt_w (dw_or (dt_not (dt_val (dv_isi (T := "tuple") m_isinstance m_tuple (dv_var (pv 0))))) (dw_or1 (tne hr.units (dv_b1 call_len_seq l_len m_len (dv_var (pv 0))) (dv_of de_int))))) (dss_one (ds_ret (dv_of de_bl))) dss_nil)
    (dss_cons (ds_asg (de_of (dv_var (pv 0))) (dg_tup (n := 2) rfl (dgs_cons (dg_name (i := 1) sc_is_fraction.nd) (dgs_cons (dg_name (i := 2) sc_is_fraction.nd) dgs_nil))))
    (dss_cons (ds_if (dt_w (dw_or (dt_not (dt_val (dv_of (dcall T_is_whole_number hr (da_cons (de_of (dv_var (pv 1))) da_nil))))) (dw_or1 (dt_not (dt_val (dv_of (dcall T_is_whole_number hr (da_cons (de_of (dv_var (pv 2))) da_nil)))))))) (dss_one (ds_ret (dv_of de_bl))) dss_nil)
    (dss_one (ds_ret (dv_and (dge (dv_var (pv 2)) (dv_of de_int)) (dv_one (deq hr.units (dv_of (dcall T_common_divisor hr (da_cons (de_of (dv_var (pv 1))) (da_cons (de_of (dv_var (pv 2))) da_nil)))) (dv_of de_int))))))))), rd_is_fraction⟩
end
end Wk04
namespace Wk04
open PySem PySem.Spec PyProof.Rows L2 LL DL K01 KK
section
variable {P : Program} {w : World} {K : PySem.W.Frag} {mg : Str → Option Value} {base : Heap}
abbrev s_wrong_word : Stmt := topS 15
theorem sc_wrong_word : FnScope ["task", "number", "many", "forerunners", "low", "high"] ["task", "number", "many"] (defScope s_wrong_word) := ⟨rfl, rfl, rfl, by decide +kernel, rfl, by decide +kernel, by decide +kernel⟩
theorem ok_wrong_word {f : Addr} {fd : FuncData} {f_is_below : Addr} {fd_is_below : FuncData} {f_is_fraction : Addr} {fd_is_fraction : FuncData} {f_is_ascending : Addr} {fd_is_ascending : FuncData} (Fn : Fun K "wrong_word" "wrong_word" s_wrong_word f fd)
    (T_is_below : FnT P w K mg base CX0 1 "is_below" f_is_below fd_is_below ["one", "other"] (spD K 2 fLess))
    (T_is_fraction : FnT P w K mg base CX0 2 "is_fraction" f_is_fraction fd_is_fraction ["value"] (spD K 1 fIsF))
    (T_is_ascending : FnT P w K mg base CX0 3 "is_ascending" f_is_ascending fd_is_ascending ["value", "many"] (spD K 2 fAsc))
    (m_len : mg "len" = none)
    (m_isinstance : mg "isinstance" = none)
    (m_tuple : mg "tuple" = none) : FnOk P w K mg base CX0 4 f fd ["task", "number", "many"] (spD K 3 fWord) := by
  refine fn_d (k := 3) Fn sc_wrong_word rfl ?_
  rintro X cdv A out s H E rfl hr
  exact ⟨t_wrong_word, fun F0 => (dss_cons (ds_if (dt_w (dw_or (dt_not (dt_val (dv_isi (T := "tuple") m_isinstance m_tuple (dv_var (pv 0))))) (dw_or1 (tne hr.units (dv_b1 call_len_seq l_len m_len (dv_var (pv 0))) (dv_of de_int))))) (dss_one (ds_ret (dv_of de_str))) dss_nil)
    (dss_cons (ds_asg (de_of (dv_var (pv 0))) (dg_tup (n := 3) rfl (dgs_cons (dg_name (i := 3) sc_wrong_word.nd) (dgs_cons (dg_name (i := 4) sc_wrong_word.nd) (dgs_cons (dg_name (i := 5) sc_wrong_word.nd) dgs_nil)))))
    (dss_cons (ds_if (dt_w (dw_or (dt_not (dt_val (dv_of (dcall T_is_ascending hr (da_cons (de_of (dv_var (pv 3))) (da_cons (de_of (dv_var (pv 2))) da_nil)))))) (dw_or1 (tin (dv_var (pv 1)) (dv_var (pv 3)))))) (dss_one (ds_ret (dv_of de_str))) dss_nil)
    (dss_cons (ds_if (dt_w (dw_or (dt_not (dt_val (dv_of (dcall T_is_fraction hr (da_cons (de_of (dv_var (pv 4))) da_nil))))) (dw_or1 (tle (dix (dv_var (pv 4)) (dv_of de_int)) (dv_of de_int))))) (dss_one (ds_ret (dv_of de_str))) dss_nil)
    (dss_cons (ds_if (dt_w (dw_or (dt_not (dt_val (dv_of (dcall T_is_fraction hr (da_cons (de_of (dv_var (pv 5))) da_nil))))) (dw_or1 (dt_val (dv_of (dcall T_is_below hr (da_cons (de_of (dv_var (pv 5))) (da_cons (de_of (dv_var (pv 4))) da_nil)))))))) (dss_one (ds_ret (dv_of de_str))) dss_nil)
    (dss_one (ds_ret (dv_of de_non)))))))), rd_wrong_word⟩
abbrev s_check_tasks : Stmt := topS 17
theorem sc_check_tasks : FnScope ["tasks", "number", "task", "word"] ["tasks"] (defScope s_check_tasks) := ⟨rfl, rfl, rfl, by decide +kernel, rfl, by decide +kernel, by decide +kernel⟩
theorem ok_check_tasks {f : Addr} {fd : FuncData} {f_all_ahead : Addr} {fd_all_ahead : FuncData} {f_wrong_word : Addr} {fd_wrong_word : FuncData} {v_MAX_TASKS : Tok} {C_BadPlan : Addr} (Fn : Fun K "check_tasks" "check_tasks" s_check_tasks f fd)
    (m_len : mg "len" = none)
    (m_range : mg "range" = none)
    (T_all_ahead : FnT P w K mg base CX0 1 "all_ahead" f_all_ahead fd_all_ahead ["tasks", "number"] (spD K 2 fAhead))
    (m_any : mg "any" = none)
    (E_BadPlan : Er2 K mg "BadPlan" "number" "word" C_BadPlan)
    (b_BadPlan : PySem.W.subIn K (.ref C_BadPlan) (.type "BaseException") = some true)
    (t_BadPlan : PySem.W.typeIn K (.ref C_BadPlan) = some (.type "type"))
    (m_enumerate : mg "enumerate" = none)
    (T_wrong_word : FnT P w K mg base CX0 4 "wrong_word" f_wrong_word fd_wrong_word ["task", "number", "many"] (spD K 3 fWord))
    (g_MAX_TASKS : mg "MAX_TASKS" = some (.int 5 v_MAX_TASKS))
    (m_isinstance : mg "isinstance" = none)
    (m_tuple : mg "tuple" = none) : FnOk P w K mg base (L2N.CX P w) 5 f fd ["tasks"] (spD K 1 (fTs C_BadPlan)) := by
  refine fn_xN (k := 4) Fn sc_check_tasks rfl ?_
  rintro X cdv A out s H E rfl hr xx
  exact ⟨t_check_tasks C_BadPlan xx, fun F0 hE => (dss_cons (ds_if (dt_w (dw_or (dt_not (dt_val (dv_isi (T := "tuple") m_isinstance m_tuple (dv_var (pv 0))))) (dw_or1 (dt_not (tlele (dv_of de_int) (dv_b1 call_len_seq l_len m_len (dv_var (pv 0))) (dv_of (de_glob (v := .int 5) (d := .int 5) g_MAX_TASKS ⟨_, rfl⟩ fun _ => Dr.int _))))))) (dss_one (ds_raiseN2 (C := C_BadPlan) E_BadPlan (raises_own b_BadPlan t_BadPlan) rfl (L2N.takes_of rfl rfl rfl rfl) hr hE (da_cons de_non (da_cons de_str da_nil)))) dss_nil)
    (dss_cons (ds_for (passes_of rfl) rfl (di_en m_enumerate (de_of (dv_var (pv 0)))) (fun F1 s1 => (dg_tup (n := 2) rfl (dgs_cons (dg_name (i := 1) sc_check_tasks.nd) (dgs_cons (dg_name (i := 2) sc_check_tasks.nd) dgs_nil)))) (fun F1 s1 => (dss_cons (ds_set (i := 3) sc_check_tasks.nd (dcall T_wrong_word hr (da_cons (de_of (dv_var (pv 2))) (da_cons (de_of (dv_var (pv 1))) (da_cons (de_of (dv_b1 call_len_seq l_len m_len (dv_var (pv 0)))) da_nil)))))
    (dss_one (ds_if (tnotN (dv_var (pv 3)) (dv_of de_non)) (dss_one (ds_raiseN2 (C := C_BadPlan) E_BadPlan (raises_own b_BadPlan t_BadPlan) rfl (L2N.takes_of rfl rfl rfl rfl) hr (s1.ex hE) (da_cons (de_of (dv_var (pv 1))) (da_cons (de_of (dv_var (pv 3))) da_nil)))) dss_nil)))))
    (dss_one (ds_if (dt_val (dv_b1 (cr_any rfl) l_any m_any (dv_lc [("number", 1)] rfl sc_check_tasks.nd (di_rg1 m_range (da_cons (de_of (dv_b1 call_len_seq l_len m_len (dv_var (pv 0)))) da_nil)) (blkOk_by (N := ["tasks", "number", "task", "word"]) (sc := defScope s_check_tasks) (own := [("number", 1)]) (by decide +kernel)) (fun F1 s1 _ _ _ _ _ => (dg_name (i := 1) sc_check_tasks.nd)) (fun F1 s1 _ _ _ _ _ => dts_nil) (fun F1 s1 _ _ _ _ _ => (de_of (din (dv_var (pv 1)) (dv_of (dcall T_all_ahead hr (da_cons (de_of (dv_var (pv 0))) (da_cons (de_of (dv_var (pv 1))) da_nil)))))))))) (dss_one (ds_raiseN2 (C := C_BadPlan) E_BadPlan (raises_own b_BadPlan t_BadPlan) rfl (L2N.takes_of rfl rfl rfl rfl) hr hE (da_cons de_non (da_cons de_str da_nil)))) dss_nil)))), rd_check_tasks xx⟩
abbrev s_check_order : Stmt := topS 18
theorem sc_check_order : FnScope ["order", "many", "item"] ["order", "many"] (defScope s_check_order) := ⟨rfl, rfl, rfl, by decide +kernel, rfl, by decide +kernel, by decide +kernel⟩
theorem ok_check_order {f : Addr} {fd : FuncData} {f_is_number : Addr} {fd_is_number : FuncData} {C_BadPlan : Addr} (Fn : Fun K "check_order" "check_order" s_check_order f fd)
    (m_sorted : mg "sorted" = none)
    (m_list : mg "list" = none)
    (m_range : mg "range" = none)
    (E_BadPlan : Er2 K mg "BadPlan" "number" "word" C_BadPlan)
    (b_BadPlan : PySem.W.subIn K (.ref C_BadPlan) (.type "BaseException") = some true)
    (t_BadPlan : PySem.W.typeIn K (.ref C_BadPlan) = some (.type "type"))
    (T_is_number : FnT P w K mg base CX0 2 "is_number" f_is_number fd_is_number ["value", "many"] (spD K 2 fIsNum))
    (m_all : mg "all" = none)
    (m_isinstance : mg "isinstance" = none)
    (m_tuple : mg "tuple" = none) : FnOk P w K mg base (L2N.CX P w) 3 f fd ["order", "many"] (spD K 2 (fOrd C_BadPlan)) := by
  refine fn_xN (k := 2) Fn sc_check_order rfl ?_
  rintro X cdv A out s H E rfl hr xx
  exact ⟨t_check_order C_BadPlan xx, fun F0 hE => (dss_cons (ds_if (dt_w (dw_or (dt_not (dt_val (dv_isi (T := "tuple") m_isinstance m_tuple (dv_var (pv 0))))) (dw_or1 (dt_not (dt_val (dv_b1 (cr_all rfl) l_all m_all (dv_lc [("item", 2)] rfl sc_check_order.nd (di_seq (dv_var (pv 0))) (blkOk_by (N := ["order", "many", "item"]) (sc := defScope s_check_order) (own := [("item", 2)]) (by decide +kernel)) (fun F1 s1 _ _ _ _ _ => (dg_name (i := 2) sc_check_order.nd)) (fun F1 s1 _ _ _ _ _ => dts_nil) (fun F1 s1 _ _ _ _ _ => (dcall T_is_number hr (da_cons (de_of (dv_var (pv 2))) (da_cons (de_of (dv_var (pv 1))) da_nil))))))))))) (dss_one (ds_raiseN2 (C := C_BadPlan) E_BadPlan (raises_own b_BadPlan t_BadPlan) rfl (L2N.takes_of rfl rfl rfl rfl) hr hE (da_cons de_non (da_cons de_str da_nil)))) dss_nil)
    (dss_one (ds_if (tne hr.units (dv_b1 cr_sortA l_sorted m_sorted (dv_var (pv 0))) (dv_lstRg rfl m_list m_range (de_of (dv_var (pv 1))))) (dss_one (ds_raiseN2 (C := C_BadPlan) E_BadPlan (raises_own b_BadPlan t_BadPlan) rfl (L2N.takes_of rfl rfl rfl rfl) hr hE (da_cons de_non (da_cons de_str da_nil)))) dss_nil))), rd_check_order xx⟩
abbrev s_check_workers : Stmt := topS 19
theorem sc_check_workers : FnScope ["workers"] ["workers"] (defScope s_check_workers) := ⟨rfl, rfl, rfl, by decide +kernel, rfl, by decide +kernel, by decide +kernel⟩
theorem ok_check_workers {f : Addr} {fd : FuncData} {v_MAX_WORKERS : Tok} {f_is_whole_number : Addr} {fd_is_whole_number : FuncData} {C_BadPlan : Addr} (Fn : Fun K "check_workers" "check_workers" s_check_workers f fd)
    (g_MAX_WORKERS : mg "MAX_WORKERS" = some (.int 3 v_MAX_WORKERS))
    (T_is_whole_number : FnT P w K mg base CX0 1 "is_whole_number" f_is_whole_number fd_is_whole_number ["value"] (spD K 1 fWhole))
    (E_BadPlan : Er2 K mg "BadPlan" "number" "word" C_BadPlan)
    (b_BadPlan : PySem.W.subIn K (.ref C_BadPlan) (.type "BaseException") = some true)
    (t_BadPlan : PySem.W.typeIn K (.ref C_BadPlan) = some (.type "type")) : FnOk P w K mg base (L2N.CX P w) 2 f fd ["workers"] (spD K 1 (fWk C_BadPlan)) := by
  refine fn_xN (k := 1) Fn sc_check_workers rfl ?_
  rintro X cdv A out s H E rfl hr xx
  exact ⟨t_check_workers C_BadPlan xx, fun F0 hE => (dss_one (ds_if (dt_w (dw_or (dt_not (dt_val (dv_of (dcall T_is_whole_number hr (da_cons (de_of (dv_var (pv 0))) da_nil))))) (dw_or1 (dt_not (tlele (dv_of de_int) (dv_var (pv 0)) (dv_of (de_glob (v := .int 3) (d := .int 3) g_MAX_WORKERS ⟨_, rfl⟩ fun _ => Dr.int _))))))) (dss_one (ds_raiseN2 (C := C_BadPlan) E_BadPlan (raises_own b_BadPlan t_BadPlan) rfl (L2N.takes_of rfl rfl rfl rfl) hr hE (da_cons de_non (da_cons de_str da_nil)))) dss_nil)), rd_check_workers xx⟩
abbrev s_Plan___init__ : Stmt := inC (topS 20) 0
theorem sc_Plan___init__ : FnScope ["self", "tasks", "order", "workers"] ["self", "tasks", "order", "workers"] (defScope s_Plan___init__) := ⟨rfl, rfl, rfl, by decide +kernel, rfl, by decide +kernel, by decide +kernel⟩
theorem ok_Plan___init__ {f f_t f_o f_w C CB : Addr} {fd fd_t fd_o fd_w : FuncData} (Fn : Fun K "__init__" "Plan.__init__" s_Plan___init__ f fd) (cl : Cls K C) (n1 : NoAttr K C "held_tasks") (n2 : NoAttr K C "held_order") (n3 : NoAttr K C "held_workers") (m_len : mg "len" = none)
    (T_t : FnT P w K mg base (L2N.CX P w) 5 "check_tasks" f_t fd_t ["tasks"] (spD K 1 (fTs CB)))
    (T_o : FnT P w K mg base (L2N.CX P w) 3 "check_order" f_o fd_o ["order", "many"] (spD K 2 (fOrd CB)))
    (T_w : FnT P w K mg base (L2N.CX P w) 2 "check_workers" f_w fd_w ["workers"] (spD K 1 (fWk CB))) : FnOk P w K mg base (L2N.CX P w) 6 f fd ["self", "tasks", "order", "workers"] (spIni K C CB) := by
  refine okN Fn sc_Plan___init__ (fun vs H Q E h => ?_) (fun cdv A outer s H vs Q E hr h => ?_)
  · obtain ⟨_, _, _, _, _, _, _, _, _, rfl, _⟩ := h
    rfl
  obtain ⟨x, dx, vt, vo, vw, t, o, wk, fr, rfl, hx, hf, xf, hd, ⟨st, so, sw⟩, qN, qE⟩ := h
  have tk := L2N.takes_of (X := cxOf (L2N.CX P w) P w K mg base ["self", "tasks", "order", "workers"] "Plan.__init__" (defScope s_Plan___init__) f cdv A outer s H E) (E := E) rfl rfl rfl rfl
  have px := L2N.passes_call tk (E := E) fun _ _ _ _ h => h
  refine ⟨_, pss_cons (ps_expr (pe_call T_t.ok (hr.mono (by decide)) (by rfl) T_t.at_ T_t.kp T_t.bd .nil px (pa_cons (pv 1) pa_nil)))
    (pss_cons (ps_expr (pe_call T_o.ok (hr.mono (by decide)) (by rfl) T_o.at_ T_o.kp T_o.bd .nil px (pa_cons (pv 2) (pa_cons (pe_callB call_len_seq (by rfl) m_len PySem.boot_len (pa_cons (pv 1) pa_nil)) pa_nil))))
    (pss_cons (ps_expr (pe_call T_w.ok (hr.mono (by decide)) (by rfl) T_w.at_ T_w.kp T_w.bd .nil px (pa_cons (pv 3) pa_nil)))
    (pss_cons (ps_fld (pv 0) (pv 1) rfl) (pss_cons (ps_fld (pv 0) (pv 2) rfl) (pss_one (ps_fld (pv 0) (pv 3) rfl)))))), ?_⟩
  match hd with
  | .cons ht (.cons ho (.cons hw .nil)) =>
    refine ⟨vt, rfl, [t], fr, rfl, hf, .cons ht .nil, fun d => d = .non ∧ tasksE t = none, fun e => ∃ n y, tasksE t = some (n, y) ∧ e = bad CB n y, ⟨st, fun z => ⟨rfl, z⟩, fun n y z => ⟨n, y, z, rfl⟩⟩, ?_, ?_⟩
    · rintro d ⟨rfl, z0⟩ v H1 s1 dv
      obtain ⟨ts, rfl, l5⟩ := tasksE_tup z0
      have ht1 := ht.up (hid_up s1)
      have ho1 := ho.up (hid_up s1)
      have hw1 := hw.up (hid_up s1)
      have hf1 : ∀ a ∈ fr, H1 a ≠ none := fun a ha z => hf a ha (s1.free z)
      cases ht1 with
      | tup q1 q2 =>
        refine ⟨vo, rfl, _, rfl, _, _, rfl, .inr (Same.seqT hid_same q1), [o, .int ts.length], fr, rfl, hf1, .cons ho1 (.cons (by rw [q2.length]; exact .int _) .nil), fun d => d = .non ∧ okOrd ts.length o = true, fun e => okOrd ts.length o = false ∧ e = bad CB .non "order", ⟨⟨so, by omega, by omega⟩, fun z => ⟨rfl, by simpa using z⟩, fun z => ⟨by simpa using z, rfl⟩⟩, ?_, ?_⟩
        · rintro d ⟨rfl, z1⟩ v H2 s2 dv
          have s12 := s1.trans s2
          have hw2 := hw1.up (hid_up s2)
          have hf2 : ∀ a ∈ fr, H2 a ≠ none := fun a ha z => hf a ha (s12.free z)
          refine ⟨vw, rfl, [wk], fr, rfl, hf2, .cons hw2 .nil, fun d => d = .non ∧ okWk wk = true, fun e => okWk wk = false ∧ e = bad CB .non "workers", ⟨sw, fun z => ⟨rfl, z⟩, fun z => ⟨z, rfl⟩⟩, ?_, ?_⟩
          · rintro d ⟨rfl, z2⟩ v H3 s3 dv
            have s13 := s12.trans s3
            refine ⟨_, rfl, _, rfl, x, C, dx, [], rfl, s13 _ _ hx, cl, n1, by decide, ?_⟩
            refine ⟨_, rfl, _, rfl, x, C, dx, _, rfl, upd_same, cl, n2, (show (1 : Nat) < 1000 by decide), ?_⟩
            refine ⟨_, rfl, _, rfl, x, C, dx, _, rfl, upd_same, cl, n3, (show (2 : Nat) < 1000 by decide), ?_⟩
            refine qN (planE_n z0 z1 z2) _ (fun c u n z => ?_) ?_
            · rw [upd_ne n, upd_ne n, upd_ne n]
              exact s13 _ _ z
            · rw [upd_same]
              rfl
          · rintro e ⟨z2, rfl⟩
            exact ErR.up (qE _ _ (planE_w z0 z1 z2)) s12
        · rintro e ⟨z1, rfl⟩
          exact ErR.up (qE _ _ (planE_o z0 z1)) s1
    · rintro e ⟨n, y, z, rfl⟩
      exact qE n y (planE_t z)
abbrev s_Plan___len__ : Stmt := inC (topS 20) 6
theorem sc_Plan___len__ : FnScope ["self"] ["self"] (defScope s_Plan___len__) := ⟨rfl, rfl, rfl, by decide +kernel, rfl, by decide +kernel, by decide +kernel⟩
theorem ok_Plan___len__ {f : Addr} {fd : FuncData} {C_Plan : Addr} (Fn : Fun K "__len__" "Plan.__len__" s_Plan___len__ f fd)
    (c_Plan : Cls K C_Plan)
    (na_Plan_held_tasks : NoAttr K C_Plan "held_tasks")
    (m_len : mg "len" = none) : FnOk P w K mg base CX0 1 f fd ["self"] (spD K 1 (fLenP C_Plan)) := by
  refine fn_d (k := 0) Fn sc_Plan___len__ rfl ?_
  rintro X cdv A out s H E rfl hr
  exact ⟨t_Plan___len__ C_Plan, fun F0 => (dss_one (ds_ret (dv_b1 call_len_seq l_len m_len (dv_of (de_fld c_Plan na_Plan_held_tasks (de_of (dv_var (pv 0)))))))), rd_Plan___len__⟩
abbrev s_Plan___str__ : Stmt := inC (topS 20) 8
theorem sc_Plan___str__ : FnScope ["self"] ["self"] (defScope s_Plan___str__) := ⟨rfl, rfl, rfl, by decide +kernel, rfl, by decide +kernel, by decide +kernel⟩
theorem ok_Plan___str__ {f : Addr} {fd : FuncData} {C_Plan : Addr} (Fn : Fun K "__str__" "Plan.__str__" s_Plan___str__ f fd)
    (c_Plan : Cls K C_Plan)
    (na_Plan_held_workers : NoAttr K C_Plan "held_workers")
    (na_Plan_held_tasks : NoAttr K C_Plan "held_tasks")
    (m_len : mg "len" = none) : FnOk P w K mg base CX0 1 f fd ["self"] (spD K 1 (fStrP C_Plan)) := by
  refine fn_d (k := 0) Fn sc_Plan___str__ rfl ?_
  rintro X cdv A out s H E rfl hr
  exact ⟨t_Plan___str__ C_Plan, fun F0 => (dss_one (ds_ret (dv_of (de_joined (.cons (de_fmt (de_of (dv_b1 call_len_seq l_len m_len (dv_of (de_fld c_Plan na_Plan_held_tasks (de_of (dv_var (pv 0)))))))) (.cons de_str (.cons (de_fmt (de_fld c_Plan na_Plan_held_workers (de_of (dv_var (pv 0))))) (.cons de_str .nil)))))))), rd_Plan___str__⟩
abbrev s__law_deck : Stmt := topS 22
theorem sc__law_deck : FnScope ["_law_script", "_law_great", "_law_small", "_law_cell"] ["_law_script"] (defScope s__law_deck) := ⟨rfl, rfl, rfl, by decide +kernel, rfl, by decide +kernel, by decide +kernel⟩
theorem ok__law_deck {f : Addr} {fd : FuncData} {k : Nat} (Fn : Fun K "_law_deck" "_law_deck" s__law_deck f fd) (m_len : mg "len" = none) (m_abs : mg "abs" = none) (m_int : mg "int" = none) :
    FnOk P w K mg base CX0 (k + 1) f fd ["_law_script"] (spDeckD K) := by
  refine Fn.ok sc__law_deck (fun vs H Q E h => ?_) (fun cdv A outer s H vs Q E hr h => ?_)
  · obtain ⟨a, ns, rfl, _⟩ := h
    rfl
  obtain ⟨a, ns, rfl, hS, hlen, q⟩ := h
  refine ⟨_, pss_cons (ps_par (i := 1) (j := 2) (by rfl) sc__law_deck.nd rfl rfl (by decide) rfl rfl (pa_cons pe_int (pa_cons (pe_op op_add pe_int (pe_op op_mul pe_int (pe_callB call_len_seq (by rfl) m_len PySem.boot_len (pa_cons (pv 0) pa_nil)))) pa_nil)) (by rfl))
    (pss_cons (ps_for PassesOwn.never rfl (pi_list (pe_slice sl_list (pv 0) po_none (po_some pe_int))) (pg_name (i := 3) sc__law_deck.nd rfl (.inl rfl))
      (pss_one (ps_if (pt_cmpR op_ge (pv 3) (pe_op op_pow pe_int pe_int) (nomark _))
        (pss_one (ps_set (i := 1) sc__law_deck.nd rfl (.inl rfl) (pe_op op_sub (pe_op op_add (pe_op op_mul (pv 1) pe_int) (pv 3)) (pe_op op_pow pe_int pe_int))))
        (pss_cons (ps_set (i := 2) sc__law_deck.nd rfl (.inl rfl) (pe_op op_add (pe_op op_mul (pv 2) pe_int) (pe_op op_mul pe_int (pe_callB call_abs (by rfl) m_abs (by decide +kernel) (pa_cons (pv 3) pa_nil)))))
          (pss_one (ps_set (i := 2) sc__law_deck.nd rfl (.inl rfl) (pe_op op_mod (pe_callTy call_int1 (by rfl) m_int (by decide +kernel) (pa_cons (pe_op op_add (pv 2) (pe_callTy call_int1 (by rfl) m_int (by decide +kernel) (pa_cons (pe_cmpR op_lt (pv 3) pe_int (nomark _)) pa_nil))) pa_nil)) pe_int)))))))
    (pss_one (ps_ret (pe_lst (pa_cons (pv 1) (pa_cons (pv 2) (pa_cons pe_int pa_nil))))))), ?_⟩
  refine ⟨.ref a, rfl, a, ns.map V.int, rfl, .inl hS, 37, _, rfl, rfl, .inl ⟨by decide, by decide⟩, _, _, rfl, rfl, _, _, rfl, ?_⟩
  refine ⟨.ref a, rfl, 63, rfl, a, ns.map V.int, rfl, hS, fun c nc => ?_⟩
  have sc := same_new (H := H) (p := c) (o := .lst (cutV (ns.map V.int) none (some 63))) nc
  obtain ⟨zs, ez⟩ : ∃ zs : List Int, cutV (ns.map V.int) none (some 63) = zs.map V.int := by
    refine ⟨?zz, ?ee⟩
    case ee =>
      unfold cutV
      rw [← List.map_drop, ← List.map_take]
  refine ⟨c, rfl, ⟨_, SqL.of upd_same⟩, ?_⟩
  refine for_list (K := K) (a := c) (xs := zs.map V.int) (fun i σ H2 => ∃ (g m : Int) (v : Option V), σ = [some (.ref a), some (.int g), some (.int m), v] ∧ 0 ≤ g ∧ 0 ≤ m ∧ m < 2305843009213693952 ∧ Same H H2 ∧ H2 c = some (.lst (zs.map V.int))) ?_ ?_ ?_ ?_
  · refine ⟨_, _, _, rfl, by decide, ?_, ?_, sc, by rw [upd_same, ez]⟩
    · rw [List.length_map]; omega
    · rw [List.length_map]; omega
  · rintro i σ H2 _ ⟨_, _, _, _, _, _, _, _, e⟩
    exact SqL.of e
  · rintro i y σ H2 hi ⟨g, m, v, rfl, g0, m0, m1, s2, e2⟩
    obtain ⟨z, _, rfl⟩ := List.mem_map.mp (List.mem_of_getElem? hi)
    refine ⟨_, rfl, 10, 18, rfl, rfl, ⟨by decide, by decide, by decide⟩, _, _, rfl, rfl, _, rfl, ite2 (fun c1 => ?_) (fun c1 => ?_)⟩
    · have c2 : (10 : Int) ^ (18 : Int).toNat ≤ z := of_decide_eq_true c1
      refine ⟨_, rfl, _, _, rfl, rfl, .inr ⟨by decide, by decide⟩, _, rfl, _, _, rfl, rfl, 10, 18, rfl, rfl, ⟨by decide, by decide, by decide⟩, _, _, rfl, rfl, ?_⟩
      refine ⟨_, m, _, rfl, ?_, m0, m1, s2, e2⟩
      omega
    · refine ⟨_, rfl, _, _, rfl, rfl, .inr ⟨by decide, by decide⟩, _, rfl, _, rfl, 2, _, rfl, rfl, .inl ⟨by decide, by decide⟩, _, _, rfl, rfl, ?_⟩
      refine ⟨_, rfl, _, rfl, _, _, rfl, rfl, .inr ⟨_, rfl, _, _, rfl, rfl, .inl ⟨_, rfl, _, _, rfl, rfl, (by show (0 : Int) < 2305843009213693951; decide), ?_⟩⟩⟩
      refine ⟨g, _, _, rfl, g0, Int.emod_nonneg _ (by decide), ?_, s2, e2⟩
      exact Int.lt_trans (Int.emod_lt_of_pos _ (by decide)) (by decide)
  · rintro σ H2 ⟨g, m, v, rfl, g0, m0, m1, s2, e2⟩
    refine ⟨_, rfl, _, rfl, (by show 3 ≤ sizeLine; decide), fun p np => ?_⟩
    exact q _ p (s2.trans (same_new np)) (s2.free np) ⟨_, upd_same, g, m, 0, rfl, g0, m0, m1⟩
end
end Wk04
namespace Wk04
open PySem PySem.Spec PyProof.Rows L2 LL DL K01 KK
section
variable {P : Program} {w : World} {K : PySem.W.Frag} {mg : Str → Option Value} {base : Heap}
abbrev s__law_is_integer : Stmt := topS 28
theorem sc__law_is_integer : FnScope ["_law_value"] ["_law_value"] (defScope s__law_is_integer) := ⟨rfl, rfl, rfl, by decide +kernel, rfl, by decide +kernel, by decide +kernel⟩
theorem ok__law_is_integer {f : Addr} {fd : FuncData} (Fn : Fun K "_law_is_integer" "_law_is_integer" s__law_is_integer f fd)
    (m_isinstance : mg "isinstance" = none)
    (m_bool : mg "bool" = none)
    (m_int : mg "int" = none) : FnOk P w K mg base CX0 1 f fd ["_law_value"] (spD K 1 fWhole) := by
  refine fn_d (k := 0) Fn sc__law_is_integer rfl ?_
  rintro X cdv A out s H E rfl hr
  exact ⟨t__law_is_integer, fun F0 => (dss_one (ds_ret (dv_and (dv_isi (T := "int") m_isinstance m_int (dv_var (pv 0))) (dv_one (dv_not (dv_isi (T := "bool") m_isinstance m_bool (dv_var (pv 0)))))))), rd__law_is_integer⟩
abbrev s__law_is_number : Stmt := topS 35
theorem sc__law_is_number : FnScope ["_law_value", "_law_many"] ["_law_value", "_law_many"] (defScope s__law_is_number) := ⟨rfl, rfl, rfl, by decide +kernel, rfl, by decide +kernel, by decide +kernel⟩
theorem ok__law_is_number {f : Addr} {fd : FuncData} {f__law_is_integer : Addr} {fd__law_is_integer : FuncData} (Fn : Fun K "_law_is_number" "_law_is_number" s__law_is_number f fd)
    (T__law_is_integer : FnT P w K mg base CX0 1 "_law_is_integer" f__law_is_integer fd__law_is_integer ["_law_value"] (spD K 1 fWhole)) : FnOk P w K mg base CX0 2 f fd ["_law_value", "_law_many"] (spD K 2 fIsNum) := by
  refine fn_d (k := 1) Fn sc__law_is_number rfl ?_
  rintro X cdv A out s H E rfl hr
  exact ⟨t__law_is_number, fun F0 => (dss_one (ds_ret (dv_and (dv_of (dcall T__law_is_integer hr (da_cons (de_of (dv_var (pv 0))) da_nil))) (dv_one (dlelt (dv_of de_int) (dv_var (pv 0)) (dv_var (pv 1))))))), rd__law_is_number⟩
abbrev s__law_due_k04 : Stmt := topS 39
theorem sc__law_due_k04 : FnScope ["_law_tasks_here", "_law_number"] ["_law_tasks_here", "_law_number"] (defScope s__law_due_k04) := ⟨rfl, rfl, rfl, by decide +kernel, rfl, by decide +kernel, by decide +kernel⟩
theorem ok__law_due_k04 {f : Addr} {fd : FuncData} {f__law_is_number : Addr} {fd__law_is_number : FuncData} (Fn : Fun K "_law_due" "_law_due" s__law_due_k04 f fd)
    (T__law_is_number : FnT P w K mg base CX0 2 "_law_is_number" f__law_is_number fd__law_is_number ["_law_value", "_law_many"] (spD K 2 fIsNum))
    (m_len : mg "len" = none) : FnOk P w K mg base CX0 3 f fd ["_law_tasks_here", "_law_number"] (spD K 2 fDue4) := by
  refine fn_d (k := 2) Fn sc__law_due_k04 rfl ?_
  rintro X cdv A out s H E rfl hr
  exact ⟨t__law_due_k04, fun F0 => (dss_cons (ds_if (dt_val (dv_of (dcall T__law_is_number hr (da_cons (de_of (dv_var (pv 1))) (da_cons (de_of (dv_b1 call_len_seq l_len m_len (dv_var (pv 0)))) da_nil))))) (dss_one (ds_ret (dv_lst (da_cons de_str (da_cons (de_of (dix (dv_var (pv 0)) (dv_var (pv 1)))) da_nil))))) dss_nil)
    (dss_one (ds_ret (dv_lst (da_cons de_str (da_cons (de_of (dv_var (pv 1))) (da_cons de_bl (da_cons de_bl da_nil)))))))), rd__law_due_k04⟩
abbrev s_Plan_check_number : Stmt := inC (topS 20) 9
theorem sc_Plan_check_number : FnScope ["self", "number"] ["self", "number"] (defScope s_Plan_check_number) := ⟨rfl, rfl, rfl, by decide +kernel, rfl, by decide +kernel, by decide +kernel⟩
theorem ok_Plan_check_number {f : Addr} {fd : FuncData} {f_is_number : Addr} {fd_is_number : FuncData} {C_NoTask : Addr} {C_Plan : Addr} (Fn : Fun K "check_number" "Plan.check_number" s_Plan_check_number f fd)
    (T_is_number : FnT P w K mg base CX0 2 "is_number" f_is_number fd_is_number ["value", "many"] (spD K 2 fIsNum))
    (c_Plan : Cls K C_Plan)
    (na_Plan_held_tasks : NoAttr K C_Plan "held_tasks")
    (m_len : mg "len" = none)
    (E_NoTask : Er1 K mg "NoTask" "number" C_NoTask)
    (b_NoTask : PySem.W.subIn K (.ref C_NoTask) (.type "BaseException") = some true)
    (t_NoTask : PySem.W.typeIn K (.ref C_NoTask) = some (.type "type")) : FnOk P w K mg base (L2N.CX P w) 3 f fd ["self", "number"] (spD K 2 (fChk C_Plan C_NoTask)) := by
  refine fn_xN (k := 2) Fn sc_Plan_check_number rfl ?_
  rintro X cdv A out s H E rfl hr xx
  exact ⟨t_Plan_check_number C_NoTask C_Plan xx, fun F0 hE => (dss_one (ds_if (dt_not (dt_val (dv_of (dcall T_is_number hr (da_cons (de_of (dv_var (pv 1))) (da_cons (de_of (dv_b1 call_len_seq l_len m_len (dv_of (de_fld c_Plan na_Plan_held_tasks (de_of (dv_var (pv 0))))))) da_nil)))))) (dss_one (ds_raiseN1 (C := C_NoTask) E_NoTask (raises_own b_NoTask t_NoTask) rfl (L2N.takes_of rfl rfl rfl rfl) hr hE (da_cons (de_of (dv_var (pv 1))) da_nil))) dss_nil)), rd_Plan_check_number xx⟩
abbrev s_Plan___getitem__ : Stmt := inC (topS 20) 4
theorem sc_Plan___getitem__ : FnScope ["self", "at"] ["self", "at"] (defScope s_Plan___getitem__) := ⟨rfl, rfl, rfl, by decide +kernel, rfl, by decide +kernel, by decide +kernel⟩
theorem ok_Plan___getitem__ {f : Addr} {fd : FuncData} {C_NoTask : Addr} {C_Plan : Addr} (Fn : Fun K "__getitem__" "Plan.__getitem__" s_Plan___getitem__ f fd)
    (c_Plan : Cls K C_Plan)
    (na_Plan_held_tasks : NoAttr K C_Plan "held_tasks")
    (T_Plan_check_number : MtT P w K mg base (L2N.CX P w) 3 C_Plan "check_number" 1 (fChk C_Plan C_NoTask)) : FnOk P w K mg base (L2N.CX P w) 4 f fd ["self", "at"] (spD K 2 (fGetI C_Plan C_NoTask)) := by
  refine fn_xN (k := 3) Fn sc_Plan___getitem__ rfl ?_
  rintro X cdv A out s H E rfl hr xx
  exact ⟨t_Plan___getitem__ C_NoTask C_Plan xx, fun F0 hE => (dss_cons (ds_expr (dv_of (de_methN c_Plan T_Plan_check_number hr (L2N.takes_of rfl rfl rfl rfl) hE (de_of (dv_var (pv 0))) (da_cons (de_of (dv_var (pv 1))) da_nil))))
    (dss_one (ds_ret (dix (dv_of (de_fld c_Plan na_Plan_held_tasks (de_of (dv_var (pv 0))))) (dv_var (pv 1)))))), rd_Plan___getitem__ xx⟩
abbrev s__law_told_none : Stmt := topS 34
theorem sc__law_told_none : FnScope ["_law_error"] ["_law_error"] (defScope s__law_told_none) := ⟨rfl, rfl, rfl, by decide +kernel, rfl, by decide +kernel, by decide +kernel⟩
theorem ok__law_told_none {f : Addr} {fd : FuncData} {C_NoTask : Addr} (Fn : Fun K "_law_told_none" "_law_told_none" s__law_told_none f fd)
    (m_ValueError : mg "ValueError" = none)
    (kt_NoTask_ValueError : PySem.W.kitOne K (.ref C_NoTask) (.type "ValueError") = some false)
    (ec_NoTask : ErC K C_NoTask)
    (cg : ClG K)
    (m_isinstance : mg "isinstance" = none)
    (m_LookupError : mg "LookupError" = none)
    (kt_NoTask_LookupError : PySem.W.kitOne K (.ref C_NoTask) (.type "LookupError") = some true)
    (xf_NoTask : XfC K C_NoTask)
    (no_NoTask_number : PySem.W.findIn K (.ref C_NoTask) "number" = some none) : FnE P w K mg base 1 f fd ["_law_error"] C_NoTask (spE K eNone) := by
  refine fn_e (k := 0) Fn sc__law_told_none rfl ?_
  rintro X cdv A out s H E ⟨a, oa⟩ dd rfl hr hp
  exact ⟨t__law_told_none C_NoTask a dd, fun F0 => (dss_one (ds_ret (dv_lst (da_cons de_str (da_cons (de_xf xf_NoTask no_NoTask_number hp (pv 0)) (da_cons (de_isX (b := true) ec_NoTask cg hp kt_NoTask_LookupError (.ty _) m_isinstance (pv 0) (pe_bltn (v := .ty "LookupError") (by rfl) m_LookupError (by decide +kernel) rfl)) (da_cons (de_isX (b := false) ec_NoTask cg hp kt_NoTask_ValueError (.ty _) m_isinstance (pv 0) (pe_bltn (v := .ty "ValueError") (by rfl) m_ValueError (by decide +kernel) rfl)) da_nil))))))), rd__law_told_none a dd⟩
abbrev s__law_got : Stmt := topS 38
theorem sc__law_got : FnScope ["_law_plan", "_law_number", "_law_found", "_law_error"] ["_law_plan", "_law_number"] (defScope s__law_got) := ⟨rfl, rfl, rfl, by decide +kernel, rfl, by decide +kernel, by decide +kernel⟩
theorem ok__law_got {f : Addr} {fd : FuncData} {C_Plan : Addr} {C_NoTask : Addr} (Fn : Fun K "_law_got" "_law_got" s__law_got f fd)
    (TS_Plan___getitem__ : SpT P w K mg base (L2N.CX P w) 4 C_Plan "__getitem__" 1 (fGetI C_Plan C_NoTask))
    (gc_NoTask : mg "NoTask" = some (.ref C_NoTask))
    (x_NoTask_NoTask : PySem.W.exmOne K (.ref C_NoTask) (.ref C_NoTask) = some true)
    (T__law_told_none : FnTE P w K mg base 1 "_law_told_none" C_NoTask eNone) : FnOk P w K mg base CX0 6 f fd ["_law_plan", "_law_number"] (spD K 2 (fGot C_Plan)) := by
  refine fn_d (k := 5) Fn sc__law_got rfl ?_
  rintro X cdv A out s H E rfl hr
  exact ⟨t__law_got C_Plan C_NoTask, fun F0 => (dss_cons (ds_set (i := 2) sc__law_got.nd de_non)
    (dss_cons (ds_try sc__law_got.nd (HdD.as (i := 3) (ml := [(C_NoTask, true)]) ⟨rfl, by decide, .inl gc_NoTask⟩ (exm_cons x_NoTask_NoTask exm_nil) (fun a C dd oe pn hm => (by obtain rfl : C = C_NoTask := (by simpa using hm); exact fun hz hf => (dss_one (ds_set (i := 2) sc__law_got.nd (de_callE T__law_told_none (roomS hr) rfl ⟨oe, List.mem_cons_self, hz, hf⟩ (pv 3)))))) HdD.nil) (fun W pn xe tk po xr hX => (dss_one (ds_set (i := 2) sc__law_got.nd (de_of (dv_lst (da_cons de_str (da_cons (de_ixT TS_Plan___getitem__ hr tk hX (de_of (dv_var (pv 0))) (de_of (dv_var (pv 1)))) da_nil))))))))
    (dss_one (ds_ret (dv_var (pv 2)))))), rd__law_got⟩
abbrev s__law_take : Stmt := topS 23
theorem sc__law_take : FnScope ["_law_deck_here", "_law_limit", "_law_digit", "_law_mixed_here"] ["_law_deck_here", "_law_limit"] (defScope s__law_take) := ⟨rfl, rfl, rfl, by decide +kernel, rfl, by decide +kernel, by decide +kernel⟩
theorem ok_take0 {f : Addr} {fd : FuncData} {k : Nat} (Fn : Fun K "_law_take" "_law_take" s__law_take f fd) (m_int : mg "int" = none) :
    FnOk P w K mg base CX0 (k + 1) f fd ["_law_deck_here", "_law_limit"] spTake := by
  refine Fn.ok sc__law_take (fun vs H Q E h => ?_) (fun cdv A outer s H vs Q E hr h => ?_)
  · obtain ⟨a, k, rfl, _⟩ := h
    rfl
  obtain ⟨b, n, rfl, ⟨_, hb, g, m, c, rfl, g0, m0, m1⟩, n0, n1, q⟩ := h
  refine ⟨_, pss_cons (ps_if (pt_cmpR op_gt (pe_ix ix_list (pv 0) pe_int (fun _ _ => rfl)) pe_int (nomark _))
      (pss_cons (ps_set (i := 2) sc__law_take.nd rfl (.inl rfl) (pe_op op_mod (pe_callTy call_int1 (by rfl) m_int (by decide +kernel) (pa_cons (pe_ix ix_list (pv 0) pe_int (fun _ _ => rfl)) pa_nil)) (pv 1)))
      (pss_cons (ps_asg (pe_op op_fdivW (pe_ix ix_list (pv 0) pe_int (fun _ _ => rfl)) (pv 1)) (pg_sub (pv 0) pe_int set_list))
      (pss_one (ps_ret (pv 2))))) pss_nil)
    (pss_cons (ps_asg (pe_op op_add (pe_ix ix_list (pv 0) pe_int (fun _ _ => rfl)) pe_int) (pg_sub (pv 0) pe_int set_list))
    (pss_cons (ps_set (i := 3) sc__law_take.nd rfl (.inl rfl) (pe_op op_add (pe_op op_mul (pe_ix ix_list (pv 0) pe_int (fun _ _ => rfl)) pe_int) (pe_op op_mul pe_int (pe_ix ix_list (pv 0) pe_int (fun _ _ => rfl)))))
    (pss_cons (ps_asg (pe_op op_mod (pe_callTy call_int1 (by rfl) m_int (by decide +kernel) (pa_cons (pv 3) pa_nil)) pe_int) (pg_sub (pv 0) pe_int set_list))
    (pss_one (ps_ret (pe_op op_mod (pe_op op_fdiv (pe_op op_mod (pe_callTy call_int1 (by rfl) m_int (by decide +kernel) (pa_cons (pe_op op_mul (pe_ix ix_list (pv 0) pe_int (fun _ _ => rfl)) (pe_ix ix_list (pv 0) pe_int (fun _ _ => rfl))) pa_nil)) pe_int) pe_int) (pv 1))))))), ?_⟩
  refine ⟨_, rfl, b, _, 0, _, rfl, rfl, SqL.of hb, atI_nat (j := 0) rfl, _, _, rfl, rfl, _, rfl, ite2 (fun c1 => ?_) (fun c1 => ?_)⟩
  · have c2 : (0 : Int) < g := of_decide_eq_true c1
    refine ⟨_, rfl, b, _, 0, _, rfl, rfl, SqL.of hb, atI_nat (j := 0) rfl, .inl ⟨_, rfl, _, rfl, _, _, rfl, rfl, n0, ?_⟩⟩
    refine ⟨_, rfl, b, _, 0, _, rfl, rfl, SqL.of hb, atI_nat (j := 0) rfl, _, rfl, _, _, rfl, rfl, ⟨n0, n1⟩, _, rfl, b, _, 0, 0, rfl, rfl, hb, rfl, ?_⟩
    refine ⟨_, rfl, ?_⟩
    exact q _ _ (Int.emod_nonneg _ (by omega)) (Int.emod_lt_of_pos _ n0) ⟨_, m, c, rfl, Int.ediv_nonneg g0 (by omega), m0, m1⟩
  · refine ⟨_, rfl, b, _, 2, _, rfl, rfl, SqL.of hb, atI_nat (j := 2) rfl, _, _, rfl, rfl, _, rfl, b, _, 2, 2, rfl, rfl, hb, rfl, ?_⟩
    refine ⟨_, rfl, b, _, 1, _, rfl, rfl, SqL.of upd_same, atI_nat (j := 1) rfl, _, _, rfl, rfl, .inr ⟨by decide, by decide⟩, _, rfl, b, _, 2, _, rfl, rfl, SqL.of upd_same, atI_nat (j := 2) rfl, 3037000493, _, rfl, rfl, .inl ⟨by decide, by decide⟩, _, _, rfl, rfl, ?_⟩
    refine ⟨_, rfl, .inl ⟨_, rfl, _, _, rfl, rfl, (by show (0 : Int) < 2305843009213693951; decide), _, rfl, b, _, 1, 1, rfl, rfl, upd_same, rfl, ?_⟩⟩
    have e0 := Int.emod_nonneg (m * 2862933555777941757 + 3037000493 * (c + 1)) (b := 2305843009213693951) (by decide)
    have e1 := Int.emod_lt_of_pos (m * 2862933555777941757 + 3037000493 * (c + 1)) (b := 2305843009213693951) (by decide)
    refine ⟨_, rfl, b, _, 1, _, rfl, rfl, SqL.of upd_same, atI_nat (j := 1) rfl, _, rfl, b, _, 1, _, rfl, rfl, SqL.of upd_same, atI_nat (j := 1) rfl, _, _, rfl, rfl, .inl ⟨by omega, by omega⟩, .inl ⟨_, rfl, _, _, rfl, rfl, (by show (0 : Int) < 2305843009213693921; decide), _, _, rfl, rfl, ⟨by decide, by decide⟩, _, rfl, _, _, rfl, rfl, n0, ?_⟩⟩
    rw [upd_upd]
    exact q _ _ (Int.emod_nonneg _ (by omega)) (Int.emod_lt_of_pos _ n0) ⟨g, _, c + 1, rfl, g0, e0, by omega⟩
theorem ok__law_take {f : Addr} {fd : FuncData} (Fn : Fun K "_law_take" "_law_take" s__law_take f fd) (m_int : mg "int" = none) : FnOk P w K mg base CX0 1 f fd ["_law_deck_here", "_law_limit"] (spB K 1 fTake) :=
  fn_imp (ok_take0 (k := 0) Fn m_int) fun vs H Q E h => by
    obtain ⟨b, us, ds, fr, rfl, hl, hb, hm, hf, hd, kk, xx, h, hq, _⟩ := h
    match us, ds, hd, h with
    | [u], [.int n], .cons hu .nil, ⟨⟨h1, h2⟩, h3⟩ =>
      cases hu
      refine ⟨b, n, rfl, hb, h1, h2, fun m o m0 m1 ho => hq _ (h3 m m0 m1) _ _ But.upd ⟨o, upd_same, ho⟩ (.int m)⟩
end
end Wk04
namespace Wk04
open PySem PySem.Spec PyProof.Rows L2 LL DL K01 KK
section
variable {P : Program} {w : World} {K : PySem.W.Frag} {mg : Str → Option Value} {base : Heap}
abbrev s__law_one : Stmt := topS 24
theorem sc__law_one : FnScope ["_law_deck_here", "_law_items"] ["_law_deck_here", "_law_items"] (defScope s__law_one) := ⟨rfl, rfl, rfl, by decide +kernel, rfl, by decide +kernel, by decide +kernel⟩
theorem ok__law_one {f : Addr} {fd : FuncData} {f__law_take : Addr} {fd__law_take : FuncData} (Fn : Fun K "_law_one" "_law_one" s__law_one f fd)
    (T__law_take : FnT P w K mg base CX0 1 "_law_take" f__law_take fd__law_take ["_law_deck_here", "_law_limit"] (spB K 1 fTake))
    (m_len : mg "len" = none) : FnOk P w K mg base CX0 2 f fd ["_law_deck_here", "_law_items"] (spB K 1 fOne) := by
  refine fn_b (k := 1) Fn sc__law_one rfl ?_
  rintro X cdv A out s H E rfl hr
  exact ⟨t__law_one, fun F0 => (dss_one (ds_ret (dix (dv_var (pv 1)) (dv_of (dcallB T__law_take hr (pv 0) (da_cons (de_of (dv_b1 call_len_seq l_len m_len (dv_var (pv 1)))) da_nil)))))), rd__law_one⟩
abbrev s__law_odd : Stmt := topS 29
theorem sc__law_odd : FnScope ["_law_deck_here", "_law_some"] ["_law_deck_here"] (defScope s__law_odd) := ⟨rfl, rfl, rfl, by decide +kernel, rfl, by decide +kernel, by decide +kernel⟩
theorem ok__law_odd {f : Addr} {fd : FuncData} {f__law_one : Addr} {fd__law_one : FuncData} (Fn : Fun K "_law_odd" "_law_odd" s__law_odd f fd)
    (T__law_one : FnT P w K mg base CX0 2 "_law_one" f__law_one fd__law_one ["_law_deck_here", "_law_items"] (spB K 1 fOne)) : FnOk P w K mg base CX0 3 f fd ["_law_deck_here"] (spB K 0 fOdd) := by
  refine fn_b (k := 2) Fn sc__law_odd rfl ?_
  rintro X cdv A out s H E rfl hr
  exact ⟨t__law_odd, fun F0 => (dss_cons (ds_set (i := 1) sc__law_odd.nd (de_of (dv_clst (da_ccons de_non (da_ccons de_bl (da_ccons de_bl (da_ccons de_int (da_ccons de_int (da_ccons de_int (da_ccons (de_cneg de_int) (da_ccons (de_cpow (i := 10) (j := 39) de_int de_int) (da_ccons (de_cneg (de_cpow (i := 10) (j := 30) de_int de_int)) (da_ccons de_str (da_ccons de_str (da_ccons de_str (da_ccons (de_ctup da_cnil) (da_ccons (de_clst da_cnil) (da_ccons de_d0 (da_ccons (de_ctup (da_ccons de_int da_cnil)) (da_ccons (de_clst (da_ccons de_int da_cnil)) da_cnil))))))))))))))))))))
    (dss_cons (ds_set (i := 1) sc__law_odd.nd (de_of (dcat (dv_var (pv 1)) (dv_clst (da_ccons (de_ctup (da_ccons de_int (da_ccons de_int da_cnil))) (da_ccons (de_ctup (da_ccons de_int (da_ccons de_int da_cnil))) (da_ccons (de_clst (da_ccons (de_ctup (da_ccons de_int (da_ccons de_int da_cnil))) da_cnil)) (da_ccons (de_ctup (da_ccons (de_ctup (da_ccons de_int (da_ccons de_int da_cnil))) da_cnil)) (da_ccons de_str (da_ccons (de_ctup (da_ccons de_int da_cnil)) (da_ccons de_d1 (da_ccons (de_ctup (da_ccons de_int (da_ccons de_int da_cnil))) (da_ccons (de_ctup (da_ccons de_int (da_ccons de_int da_cnil))) da_cnil)))))))))))))
    (dss_one (ds_ret (dv_of (dcallB T__law_one hr (pv 0) (da_cons (de_of (dcat (dv_var (pv 1)) (dv_clst (da_ccons (de_ctup (da_ccons (de_ctup da_cnil) (da_ccons (de_ctup (da_ccons de_int (da_ccons de_int da_cnil))) (da_ccons (de_ctup (da_ccons de_int (da_ccons de_int da_cnil))) da_cnil)))) da_cnil)))) da_nil))))))), rd__law_odd⟩
abbrev s__law_odd_number : Stmt := topS 36
theorem sc__law_odd_number : FnScope ["_law_deck_here", "_law_many", "_law_some"] ["_law_deck_here", "_law_many"] (defScope s__law_odd_number) := ⟨rfl, rfl, rfl, by decide +kernel, rfl, by decide +kernel, by decide +kernel⟩
theorem ok__law_odd_number {f : Addr} {fd : FuncData} {f__law_one : Addr} {fd__law_one : FuncData} {f__law_take : Addr} {fd__law_take : FuncData} (Fn : Fun K "_law_odd_number" "_law_odd_number" s__law_odd_number f fd)
    (T__law_one : FnT P w K mg base CX0 2 "_law_one" f__law_one fd__law_one ["_law_deck_here", "_law_items"] (spB K 1 fOne))
    (T__law_take : FnT P w K mg base CX0 1 "_law_take" f__law_take fd__law_take ["_law_deck_here", "_law_limit"] (spB K 1 fTake)) : FnOk P w K mg base CX0 3 f fd ["_law_deck_here", "_law_many"] (spB K 1 fOddN) := by
  refine fn_b (k := 2) Fn sc__law_odd_number rfl ?_
  rintro X cdv A out s H E rfl hr
  exact ⟨t__law_odd_number, fun F0 => (dss_cons (ds_if (tgt (dv_of (dcallB T__law_take hr (pv 0) (da_cons de_int da_nil))) (dv_of de_int)) (dss_one (ds_ret (dv_of (dcallB T__law_take hr (pv 0) (da_cons (de_of (dv_var (pv 1))) da_nil))))) dss_nil)
    (dss_cons (ds_set (i := 2) sc__law_odd_number.nd (de_of (dv_lst (da_cons (de_of (dv_var (pv 1))) (da_cons (de_of (dneg (dv_of de_int))) (da_cons (de_of (dneg (dv_var (pv 1)))) (da_cons de_bl (da_cons de_bl (da_cons de_non (da_cons de_str (da_cons (de_ctup (da_ccons de_int da_cnil)) (da_cons (de_of (dv_lst da_nil)) (da_cons de_d0 (da_cons (de_cpow (i := 10) (j := 39) de_int de_int) (da_cons (de_tup da_nil) (da_cons de_str (da_cons (de_of (dv_clst (da_ccons de_int da_cnil))) (da_cons (de_of (dadd (dv_var (pv 1)) (dv_of de_int))) da_nil))))))))))))))))))
    (dss_one (ds_ret (dv_of (dcallB T__law_one hr (pv 0) (da_cons (de_of (dv_var (pv 2))) da_nil))))))), rd__law_odd_number⟩
abbrev s__law_frac : Stmt := topS 26
theorem sc__law_frac : FnScope ["_law_above", "_law_below", "_law_one_here", "_law_other", "_law_sign"] ["_law_above", "_law_below"] (defScope s__law_frac) := ⟨rfl, rfl, rfl, by decide +kernel, rfl, by decide +kernel, by decide +kernel⟩
theorem ok__law_frac {f : Addr} {fd : FuncData} (Fn : Fun K "_law_frac" "_law_frac" s__law_frac f fd)
    (m_int : mg "int" = none)
    (m_abs : mg "abs" = none) : FnOk P w K mg base CX0 1 f fd ["_law_above", "_law_below"] (spD K 2 fFrac) := by
  refine fn_d (k := 0) Fn sc__law_frac rfl ?_
  rintro X cdv A out s H E rfl hr
  exact ⟨t__law_frac, fun F0 => (dss_cons (ds_par (i := 2) (j := 3) rfl sc__law_frac.nd (dv_b1 call_abs l_abs m_abs (dv_var (pv 0))) (dv_b1 call_abs l_abs m_abs (dv_var (pv 1))))
    (dss_cons (ds_while PassesOwn.never (tgt (dv_var (pv 3)) (dv_of de_int)) (dss_one (ds_par (i := 2) (j := 3) rfl sc__law_frac.nd (dv_var (pv 3)) (dmod (dv_t1 call_int1 l_toInt m_int (dv_var (pv 2))) (dv_var (pv 3))))))
    (dss_cons (ds_set (i := 4) sc__law_frac.nd (de_of (dv_ifE (tgt (dv_var (pv 1)) (dv_of de_int)) (dv_of de_int) (dneg (dv_of de_int)))))
    (dss_one (ds_ret (dv_of (de_tup (da_cons (de_of (dfdiv (dmul (dv_var (pv 4)) (dv_var (pv 0))) (dv_var (pv 2)))) (da_cons (de_of (dfdiv (dmul (dv_var (pv 4)) (dv_var (pv 1))) (dv_var (pv 2)))) da_nil))))))))), rd__law_frac⟩
abbrev s__law_mixed : Stmt := topS 25
theorem sc__law_mixed : FnScope ["_law_deck_here", "_law_items", "_law_left", "_law_found"] ["_law_deck_here", "_law_items"] (defScope s__law_mixed) := ⟨rfl, rfl, rfl, by decide +kernel, rfl, by decide +kernel, by decide +kernel⟩
theorem ok__law_mixed {f : Addr} {fd : FuncData} {f__law_take : Addr} {fd__law_take : FuncData} (Fn : Fun K "_law_mixed" "_law_mixed" s__law_mixed f fd)
    (T__law_take : FnT P w K mg base CX0 1 "_law_take" f__law_take fd__law_take ["_law_deck_here", "_law_limit"] (spB K 1 fTake))
    (m_len : mg "len" = none)
    (m_list : mg "list" = none) : FnOk P w K mg base CX0 2 f fd ["_law_deck_here", "_law_items"] (spB K 1 fMixed) := by
  refine fn_b (k := 1) Fn sc__law_mixed rfl ?_
  rintro X cdv A out s H E rfl hr
  exact ⟨t__law_mixed, fun F0 => (dss_cons (ds_par (i := 2) (j := 3) rfl sc__law_mixed.nd (dv_t1 call_list_of l_list m_list (dv_var (pv 1))) (dv_lst da_nil))
    (dss_cons (ds_while PassesOwn.never (tneN hr.units (dv_var (pv 2)) (dv_lst da_nil)) (dss_one (ds_expr (dv_app (pv 3) (de_of (dv_popAt (pv 2) (dcallB T__law_take hr (pv 0) (da_cons (de_of (dv_b1 call_len_seq l_len m_len (dv_var (pv 2)))) da_nil))))))))
    (dss_one (ds_ret (dv_var (pv 3)))))), rd__law_mixed⟩
abbrev s__law_plus : Stmt := topS 27
theorem sc__law_plus : FnScope ["_law_one_here", "_law_other"] ["_law_one_here", "_law_other"] (defScope s__law_plus) := ⟨rfl, rfl, rfl, by decide +kernel, rfl, by decide +kernel, by decide +kernel⟩
theorem ok__law_plus {f : Addr} {fd : FuncData} {f__law_frac : Addr} {fd__law_frac : FuncData} (Fn : Fun K "_law_plus" "_law_plus" s__law_plus f fd)
    (T__law_frac : FnT P w K mg base CX0 1 "_law_frac" f__law_frac fd__law_frac ["_law_above", "_law_below"] (spD K 2 fFrac)) : FnOk P w K mg base CX0 2 f fd ["_law_one_here", "_law_other"] (spD K 2 fPlus) := by
  refine fn_d (k := 1) Fn sc__law_plus rfl ?_
  rintro X cdv A out s H E rfl hr
  exact ⟨t__law_plus, fun F0 => (dss_one (ds_ret (dv_of (dcall T__law_frac hr (da_cons (de_of (dadd (dmul (dix (dv_var (pv 0)) (dv_of de_int)) (dix (dv_var (pv 1)) (dv_of de_int))) (dmul (dix (dv_var (pv 1)) (dv_of de_int)) (dix (dv_var (pv 0)) (dv_of de_int))))) (da_cons (de_of (dmul (dix (dv_var (pv 0)) (dv_of de_int)) (dix (dv_var (pv 1)) (dv_of de_int)))) da_nil)))))), rd__law_plus⟩
abbrev s__law_span : Stmt := topS 30
theorem sc__law_span : FnScope ["_law_deck_here", "_law_low", "_law_some"] ["_law_deck_here"] (defScope s__law_span) := ⟨rfl, rfl, rfl, by decide +kernel, rfl, by decide +kernel, by decide +kernel⟩
theorem ok__law_span {f : Addr} {fd : FuncData} {f__law_plus : Addr} {fd__law_plus : FuncData} {f__law_one : Addr} {fd__law_one : FuncData} {f__law_take : Addr} {fd__law_take : FuncData} {f__law_frac : Addr} {fd__law_frac : FuncData} (Fn : Fun K "_law_span" "_law_span" s__law_span f fd)
    (T__law_plus : FnT P w K mg base CX0 2 "_law_plus" f__law_plus fd__law_plus ["_law_one_here", "_law_other"] (spD K 2 fPlus))
    (T__law_one : FnT P w K mg base CX0 2 "_law_one" f__law_one fd__law_one ["_law_deck_here", "_law_items"] (spB K 1 fOne))
    (T__law_take : FnT P w K mg base CX0 1 "_law_take" f__law_take fd__law_take ["_law_deck_here", "_law_limit"] (spB K 1 fTake))
    (T__law_frac : FnT P w K mg base CX0 1 "_law_frac" f__law_frac fd__law_frac ["_law_above", "_law_below"] (spD K 2 fFrac)) : FnOk P w K mg base CX0 3 f fd ["_law_deck_here"] (spB K 0 fSpan) := by
  refine fn_b (k := 2) Fn sc__law_span rfl ?_
  rintro X cdv A out s H E rfl hr
  exact ⟨t__law_span, fun F0 => (dss_cons (ds_set (i := 1) sc__law_span.nd (dcall T__law_frac hr (da_cons (de_of (dadd (dv_of de_int) (dv_of (dcallB T__law_take hr (pv 0) (da_cons de_int da_nil))))) (da_cons (de_of (dadd (dv_of de_int) (dv_of (dcallB T__law_take hr (pv 0) (da_cons de_int da_nil))))) da_nil))))
    (dss_cons (ds_if (teq hr.units (dv_of (dcallB T__law_take hr (pv 0) (da_cons de_int da_nil))) (dv_of de_int)) (dss_one (ds_set (i := 1) sc__law_span.nd (dcall T__law_frac hr (da_cons (de_of (dadd (dv_of de_int) (dv_of (dcallB T__law_take hr (pv 0) (da_cons (de_of (dpow (dv_of de_int) (dv_of de_int))) da_nil))))) (da_cons (de_of (dadd (dv_of de_int) (dv_of (dcallB T__law_take hr (pv 0) (da_cons (de_of (dpow (dv_of de_int) (dv_of de_int))) da_nil))))) da_nil))))) dss_nil)
    (dss_cons (ds_set (i := 2) sc__law_span.nd (de_of (dv_clst (da_ccons (de_ctup (da_ccons de_int (da_ccons de_int da_cnil))) (da_ccons (de_ctup (da_ccons de_int (da_ccons de_int da_cnil))) (da_ccons (de_ctup (da_ccons de_int (da_ccons de_int da_cnil))) (da_ccons (de_ctup (da_ccons de_int (da_ccons de_int da_cnil))) (da_ccons (de_ctup (da_ccons de_int (da_ccons de_int da_cnil))) (da_ccons (de_ctup (da_ccons de_int (da_ccons de_int da_cnil))) (da_ccons (de_ctup (da_ccons (de_cadd (de_cpow (i := 10) (j := 9) de_int de_int) de_int) (da_ccons (de_cpow (i := 10) (j := 9) de_int de_int) da_cnil))) da_cnil))))))))))
    (dss_one (ds_ret (dv_of (de_tup (da_cons (de_of (dv_var (pv 1))) (da_cons (dcall T__law_plus hr (da_cons (de_of (dv_var (pv 1))) (da_cons (dcallB T__law_one hr (pv 0) (da_cons (de_of (dv_var (pv 2))) da_nil)) da_nil))) da_nil))))))))), rd__law_span⟩
abbrev s__law_tasks : Stmt := topS 31
theorem sc__law_tasks : FnScope ["_law_deck_here", "_law_many", "_law_line", "_law_much", "_law_tasks_here", "_law_number", "_law_ahead", "_law_found", "_law_one_here"] ["_law_deck_here", "_law_many"] (defScope s__law_tasks) := ⟨rfl, rfl, rfl, by decide +kernel, rfl, by decide +kernel, by decide +kernel⟩
theorem ok__law_tasks {f : Addr} {fd : FuncData} {f__law_span : Addr} {fd__law_span : FuncData} {f__law_take : Addr} {fd__law_take : FuncData} {f__law_mixed : Addr} {fd__law_mixed : FuncData} (Fn : Fun K "_law_tasks" "_law_tasks" s__law_tasks f fd)
    (m_tuple : mg "tuple" = none)
    (m_range : mg "range" = none)
    (T__law_span : FnT P w K mg base CX0 3 "_law_span" f__law_span fd__law_span ["_law_deck_here"] (spB K 0 fSpan))
    (T__law_take : FnT P w K mg base CX0 1 "_law_take" f__law_take fd__law_take ["_law_deck_here", "_law_limit"] (spB K 1 fTake))
    (m_sorted : mg "sorted" = none)
    (T__law_mixed : FnT P w K mg base CX0 2 "_law_mixed" f__law_mixed fd__law_mixed ["_law_deck_here", "_law_items"] (spB K 1 fMixed))
    (m_list : mg "list" = none) : FnOk P w K mg base CX0 4 f fd ["_law_deck_here", "_law_many"] (spB K 1 fTasks) := by
  refine fn_b (k := 3) Fn sc__law_tasks rfl ?_
  rintro X cdv A out s H E rfl hr
  exact ⟨t__law_tasks, fun F0 => (dss_cons (ds_tup3 (i := 2) (j := 3) (l := 4) rfl sc__law_tasks.nd (dcallB T__law_mixed hr (pv 0) (da_cons (de_of (dv_lstRg rfl m_list m_range (de_of (dv_var (pv 1))))) da_nil)) (dcallB T__law_take hr (pv 0) (da_cons de_int da_nil)) (dv_lst da_nil))
    (dss_cons (ds_for PassesOwn.never rfl (di_rg1 m_range (da_cons (de_of (dv_var (pv 1))) da_nil)) (fun F1 s1 => (dg_name (i := 5) sc__law_tasks.nd)) (fun F1 s1 => (dss_cons (ds_set (i := 6) sc__law_tasks.nd (de_of (dv_sl (dv_var (pv 2)) do_none (do_some (de_of (dv_index (de_of (dv_var (pv 2))) (de_of (dv_var (pv 5)))))))))
    (dss_cons (ds_set (i := 7) sc__law_tasks.nd (de_of (dv_b1 cr_sortA l_sorted m_sorted (dv_lc [("_law_one_here", 8)] rfl sc__law_tasks.nd (di_seq (dv_var (pv 6))) (blkOk_by (N := ["_law_deck_here", "_law_many", "_law_line", "_law_much", "_law_tasks_here", "_law_number", "_law_ahead", "_law_found", "_law_one_here"]) (sc := defScope s__law_tasks) (own := [("_law_one_here", 8)]) (by decide +kernel)) (fun F1 s1 _ _ _ _ _ => (dg_name (i := 8) sc__law_tasks.nd)) (fun F1 s1 _ _ _ _ _ => (dts_one (tlt (dv_of (dcallB T__law_take hr (pv 0) (da_cons de_int da_nil))) (dv_var (pv 3))))) (fun F1 s1 _ _ _ _ _ => (de_of (dv_var (pv 8))))))))
    (dss_one (ds_expr (dv_app (pv 4) (de_of (dadd (dv_of (de_tup (da_cons (de_of (dv_t1 call_tuple_of l_tuple m_tuple (dv_var (pv 7)))) da_nil))) (dv_of (dcallB T__law_span hr (pv 0) da_nil)))))))))))
    (dss_one (ds_ret (dv_t1 call_tuple_of l_tuple m_tuple (dv_var (pv 4))))))), rd__law_tasks⟩
end
end Wk04
namespace Wk04
open PySem PySem.Spec PyProof.Rows L2 LL DL K01 KK
section
variable {P : Program} {w : World} {K : PySem.W.Frag} {mg : Str → Option Value} {base : Heap}
abbrev s__law_parts : Stmt := topS 32
theorem sc__law_parts : FnScope ["_law_deck_here", "_law_many", "_law_tasks_here"] ["_law_deck_here"] (defScope s__law_parts) := ⟨rfl, rfl, rfl, by decide +kernel, rfl, by decide +kernel, by decide +kernel⟩
theorem ok__law_parts {f : Addr} {fd : FuncData} {f__law_take : Addr} {fd__law_take : FuncData} {f__law_mixed : Addr} {fd__law_mixed : FuncData} {f__law_tasks : Addr} {fd__law_tasks : FuncData} {f__law_one : Addr} {fd__law_one : FuncData} (Fn : Fun K "_law_parts" "_law_parts" s__law_parts f fd)
    (T__law_take : FnT P w K mg base CX0 1 "_law_take" f__law_take fd__law_take ["_law_deck_here", "_law_limit"] (spB K 1 fTake))
    (T__law_mixed : FnT P w K mg base CX0 2 "_law_mixed" f__law_mixed fd__law_mixed ["_law_deck_here", "_law_items"] (spB K 1 fMixed))
    (m_list : mg "list" = none)
    (m_range : mg "range" = none)
    (m_tuple : mg "tuple" = none)
    (T__law_tasks : FnT P w K mg base CX0 4 "_law_tasks" f__law_tasks fd__law_tasks ["_law_deck_here", "_law_many"] (spB K 1 fTasks))
    (T__law_one : FnT P w K mg base CX0 2 "_law_one" f__law_one fd__law_one ["_law_deck_here", "_law_items"] (spB K 1 fOne)) : FnOk P w K mg base CX0 5 f fd ["_law_deck_here"] (spB K 0 fParts) := by
  refine fn_b (k := 4) Fn sc__law_parts rfl ?_
  rintro X cdv A out s H E rfl hr
  exact ⟨t__law_parts, fun F0 => (dss_cons (ds_set (i := 1) sc__law_parts.nd (dcallB T__law_one hr (pv 0) (da_cons (de_of (dv_clst (da_ccons de_int (da_ccons de_int (da_ccons de_int (da_ccons de_int (da_ccons de_int (da_ccons de_int (da_ccons de_int (da_ccons de_int da_cnil)))))))))) da_nil)))
    (dss_cons (ds_set (i := 2) sc__law_parts.nd (dcallB T__law_tasks hr (pv 0) (da_cons (de_of (dv_var (pv 1))) da_nil)))
    (dss_one (ds_ret (dv_lst (da_cons (de_of (dv_var (pv 2))) (da_cons (de_of (dv_t1 call_tuple_of l_tuple m_tuple (dv_of (dcallB T__law_mixed hr (pv 0) (da_cons (de_of (dv_lstRg rfl m_list m_range (de_of (dv_var (pv 1))))) da_nil))))) (da_cons (de_of (dadd (dv_of de_int) (dv_of (dcallB T__law_take hr (pv 0) (da_cons de_int da_nil))))) da_nil)))))))), rd__law_parts⟩
abbrev s__law_with : Stmt := topS 37
theorem sc__law_with : FnScope ["_law_tasks_here", "_law_number", "_law_task"] ["_law_tasks_here", "_law_number", "_law_task"] (defScope s__law_with) := ⟨rfl, rfl, rfl, by decide +kernel, rfl, by decide +kernel, by decide +kernel⟩
theorem ok__law_with {f : Addr} {fd : FuncData} (Fn : Fun K "_law_with" "_law_with" s__law_with f fd) : FnOk P w K mg base CX0 1 f fd ["_law_tasks_here", "_law_number", "_law_task"] (spD K 3 fWith) := by
  refine fn_d (k := 0) Fn sc__law_with rfl ?_
  rintro X cdv A out s H E rfl hr
  exact ⟨t__law_with, fun F0 => (dss_one (ds_ret (dadd (dadd (dv_sl (dv_var (pv 0)) do_none (do_some (de_of (dv_var (pv 1))))) (dv_of (de_tup (da_cons (de_of (dv_var (pv 2))) da_nil)))) (dv_sl (dv_var (pv 0)) (do_some (de_of (dadd (dv_var (pv 1)) (dv_of de_int)))) do_none)))), rd__law_with⟩
abbrev s__law_others : Stmt := topS 40
theorem sc__law_others : FnScope ["_law_deck_here", "_law_tasks_here", "_law_order", "_law_workers", "_law_number", "_law_ahead", "_law_low", "_law_high", "_law_found", "_law_longer"] ["_law_deck_here", "_law_tasks_here", "_law_order", "_law_workers"] (defScope s__law_others) := ⟨rfl, rfl, rfl, by decide +kernel, rfl, by decide +kernel, by decide +kernel⟩
theorem ok__law_others {f : Addr} {fd : FuncData} {f__law_parts : Addr} {fd__law_parts : FuncData} {f__law_with : Addr} {fd__law_with : FuncData} {f__law_frac : Addr} {fd__law_frac : FuncData} {f__law_plus : Addr} {fd__law_plus : FuncData} {f__law_take : Addr} {fd__law_take : FuncData} (Fn : Fun K "_law_others" "_law_others" s__law_others f fd)
    (T__law_parts : FnT P w K mg base CX0 5 "_law_parts" f__law_parts fd__law_parts ["_law_deck_here"] (spB K 0 fParts))
    (m_len : mg "len" = none)
    (T__law_with : FnT P w K mg base CX0 1 "_law_with" f__law_with fd__law_with ["_law_tasks_here", "_law_number", "_law_task"] (spD K 3 fWith))
    (T__law_frac : FnT P w K mg base CX0 1 "_law_frac" f__law_frac fd__law_frac ["_law_above", "_law_below"] (spD K 2 fFrac))
    (T__law_plus : FnT P w K mg base CX0 2 "_law_plus" f__law_plus fd__law_plus ["_law_one_here", "_law_other"] (spD K 2 fPlus))
    (m_int : mg "int" = none)
    (T__law_take : FnT P w K mg base CX0 1 "_law_take" f__law_take fd__law_take ["_law_deck_here", "_law_limit"] (spB K 1 fTake)) : FnOk P w K mg base CX0 6 f fd ["_law_deck_here", "_law_tasks_here", "_law_order", "_law_workers"] (spB K 3 fOthers) := by
  refine fn_b (k := 5) Fn sc__law_others rfl ?_
  rintro X cdv A out s H E rfl hr
  exact ⟨t__law_others, fun F0 => (dss_cons (ds_set (i := 4) sc__law_others.nd (dcallB T__law_take hr (pv 0) (da_cons (de_of (dv_b1 call_len_seq l_len m_len (dv_var (pv 1)))) da_nil)))
    (dss_cons (ds_asg (de_of (dix (dv_var (pv 1)) (dv_var (pv 4)))) (dg_tup (n := 3) rfl (dgs_cons (dg_name (i := 5) sc__law_others.nd) (dgs_cons (dg_name (i := 6) sc__law_others.nd) (dgs_cons (dg_name (i := 7) sc__law_others.nd) dgs_nil)))))
    (dss_cons (ds_own (i := 8) sc__law_others.nd (dv_lst (da_cons (de_of (dv_lst (da_cons (de_of (dv_var (pv 1))) (da_cons (de_of (dv_var (pv 2))) (da_cons (de_of (dv_var (pv 3))) da_nil))))) (da_cons (de_of (dv_lst (da_cons (de_of (dv_var (pv 1))) (da_cons (de_of (dv_rev (dv_var (pv 2)))) (da_cons (de_of (dv_var (pv 3))) da_nil))))) (da_cons (de_of (dv_lst (da_cons (de_of (dv_var (pv 1))) (da_cons (de_of (dv_var (pv 2))) (da_cons (de_of (dadd (dmod (dv_t1 call_int1 l_toInt m_int (dv_var (pv 3))) (dv_of de_int)) (dv_of de_int))) da_nil))))) da_nil)))))
    (dss_cons (ds_expr (dv_app (pv 8) (de_of (dv_lst (da_cons (dcall T__law_with hr (da_cons (de_of (dv_var (pv 1))) (da_cons (de_of (dv_var (pv 4))) (da_cons (de_tup (da_cons (de_of (dv_var (pv 5))) (da_cons (de_of (dv_var (pv 6))) (da_cons (dcall T__law_plus hr (da_cons (de_of (dv_var (pv 7))) (da_cons (de_ctup (da_ccons de_int (da_ccons de_int da_cnil))) da_nil))) da_nil)))) da_nil)))) (da_cons (de_of (dv_var (pv 2))) (da_cons (de_of (dv_var (pv 3))) da_nil)))))))
    (dss_cons (ds_expr (dv_app (pv 8) (de_of (dv_lst (da_cons (dcall T__law_with hr (da_cons (de_of (dv_var (pv 1))) (da_cons (de_of (dv_var (pv 4))) (da_cons (de_tup (da_cons (de_of (dv_var (pv 5))) (da_cons (dcall T__law_frac hr (da_cons (de_of (dix (dv_var (pv 6)) (dv_of de_int))) (da_cons (de_of (dmul (dv_of de_int) (dix (dv_var (pv 6)) (dv_of de_int)))) da_nil))) (da_cons (de_of (dv_var (pv 7))) da_nil)))) da_nil)))) (da_cons (de_of (dv_var (pv 2))) (da_cons (de_of (dv_var (pv 3))) da_nil)))))))
    (dss_cons (ds_expr (dv_app (pv 8) (de_of (dv_lst (da_cons (dcall T__law_with hr (da_cons (de_of (dv_var (pv 1))) (da_cons (de_of (dv_var (pv 4))) (da_cons (de_tup (da_cons (de_tup da_nil) (da_cons (de_of (dv_var (pv 6))) (da_cons (de_of (dv_var (pv 7))) da_nil)))) da_nil)))) (da_cons (de_of (dv_var (pv 2))) (da_cons (de_of (dv_var (pv 3))) da_nil)))))))
    (dss_cons (ds_set (i := 9) sc__law_others.nd (de_of (dv_lst (da_cons (de_of (dadd (dv_var (pv 1)) (dv_of (de_ctup (da_ccons (de_ctup (da_ccons (de_ctup da_cnil) (da_ccons (de_ctup (da_ccons de_int (da_ccons de_int da_cnil))) (da_ccons (de_ctup (da_ccons de_int (da_ccons de_int da_cnil))) da_cnil)))) da_cnil))))) (da_cons (de_of (dadd (dv_var (pv 2)) (dv_of (de_tup (da_cons (de_of (dv_b1 call_len_seq l_len m_len (dv_var (pv 1)))) da_nil))))) (da_cons (de_of (dv_var (pv 3))) da_nil))))))
    (dss_one (ds_ret (dcat (dv_var (pv 8)) (dv_lst (da_cons (dcallB T__law_parts hr (pv 0) da_nil) (da_cons (de_of (dv_var (pv 9))) da_nil))))))))))))), rd__law_others⟩
abbrev s_Plan_order : Stmt := inC (topS 20) 2
theorem sc_Plan_order : FnScope ["self"] ["self"] (defScope s_Plan_order) := ⟨rfl, rfl, rfl, by decide +kernel, rfl, by decide +kernel, by decide +kernel⟩
theorem ok_Plan_order {f : Addr} {fd : FuncData} {C_Plan : Addr} (Fn : Fun K "order" "Plan.order" s_Plan_order f fd)
    (c_Plan : Cls K C_Plan)
    (na_Plan_held_order : NoAttr K C_Plan "held_order") : FnOk P w K mg base CX0 1 f fd ["self"] (spD K 1 (fGet C_Plan "held_order")) := by
  refine fn_d (k := 0) Fn sc_Plan_order rfl ?_
  rintro X cdv A out s H E rfl hr
  exact ⟨t_Plan_order C_Plan, fun F0 => (dss_one (ds_ret (dv_of (de_fld c_Plan na_Plan_held_order (de_of (dv_var (pv 0))))))), rd_Plan_order⟩
abbrev s_Plan_tasks : Stmt := inC (topS 20) 1
theorem sc_Plan_tasks : FnScope ["self"] ["self"] (defScope s_Plan_tasks) := ⟨rfl, rfl, rfl, by decide +kernel, rfl, by decide +kernel, by decide +kernel⟩
theorem ok_Plan_tasks {f : Addr} {fd : FuncData} {C_Plan : Addr} (Fn : Fun K "tasks" "Plan.tasks" s_Plan_tasks f fd)
    (c_Plan : Cls K C_Plan)
    (na_Plan_held_tasks : NoAttr K C_Plan "held_tasks") : FnOk P w K mg base CX0 1 f fd ["self"] (spD K 1 (fGet C_Plan "held_tasks")) := by
  refine fn_d (k := 0) Fn sc_Plan_tasks rfl ?_
  rintro X cdv A out s H E rfl hr
  exact ⟨t_Plan_tasks C_Plan, fun F0 => (dss_one (ds_ret (dv_of (de_fld c_Plan na_Plan_held_tasks (de_of (dv_var (pv 0))))))), rd_Plan_tasks⟩
abbrev s_Plan_workers : Stmt := inC (topS 20) 3
theorem sc_Plan_workers : FnScope ["self"] ["self"] (defScope s_Plan_workers) := ⟨rfl, rfl, rfl, by decide +kernel, rfl, by decide +kernel, by decide +kernel⟩
theorem ok_Plan_workers {f : Addr} {fd : FuncData} {C_Plan : Addr} (Fn : Fun K "workers" "Plan.workers" s_Plan_workers f fd)
    (c_Plan : Cls K C_Plan)
    (na_Plan_held_workers : NoAttr K C_Plan "held_workers") : FnOk P w K mg base CX0 1 f fd ["self"] (spD K 1 (fGet C_Plan "held_workers")) := by
  refine fn_d (k := 0) Fn sc_Plan_workers rfl ?_
  rintro X cdv A out s H E rfl hr
  exact ⟨t_Plan_workers C_Plan, fun F0 => (dss_one (ds_ret (dv_of (de_fld c_Plan na_Plan_held_workers (de_of (dv_var (pv 0))))))), rd_Plan_workers⟩
abbrev s__law_told_plan : Stmt := topS 33
theorem sc__law_told_plan : FnScope ["_law_plan"] ["_law_plan"] (defScope s__law_told_plan) := ⟨rfl, rfl, rfl, by decide +kernel, rfl, by decide +kernel, by decide +kernel⟩
theorem ok__law_told_plan {f : Addr} {fd : FuncData} {C_Plan : Addr} (Fn : Fun K "_law_told_plan" "_law_told_plan" s__law_told_plan f fd)
    (c_Plan : Cls K C_Plan)
    (T_Plan_workers : PrT P w K mg base 1 C_Plan "workers" (fGet C_Plan "held_workers"))
    (T_Plan_order : PrT P w K mg base 1 C_Plan "order" (fGet C_Plan "held_order"))
    (T_Plan_tasks : PrT P w K mg base 1 C_Plan "tasks" (fGet C_Plan "held_tasks")) : FnOk P w K mg base CX0 3 f fd ["_law_plan"] (spD K 1 (fTold C_Plan)) := by
  refine fn_d (k := 2) Fn sc__law_told_plan rfl ?_
  rintro X cdv A out s H E rfl hr
  exact ⟨t__law_told_plan C_Plan, fun F0 => (dss_one (ds_ret (dv_lst (da_cons (de_prop c_Plan T_Plan_tasks hr (de_of (dv_var (pv 0)))) (da_cons (de_prop c_Plan T_Plan_order hr (de_of (dv_var (pv 0)))) (da_cons (de_prop c_Plan T_Plan_workers hr (de_of (dv_var (pv 0)))) da_nil)))))), rd__law_told_plan⟩
abbrev s_law_k04 : Stmt := topS 41
theorem sc_law_k04 : FnScope ["_law_script", "_law_deck_here", "_law_turn", "_law_tasks_here", "_law_order", "_law_workers", "_law_plan", "_law_numbers", "_law_number", "_law_words", "_law_parts_here", "_law_value", "_law_other", "_law_same", "_law_told", "_law_k"] ["_law_script"] (defScope s_law_k04) := ⟨rfl, rfl, rfl, by decide +kernel, rfl, by decide +kernel, by decide +kernel⟩
theorem ok_law_k04 {f : Addr} {fd : FuncData} {f__law_told_plan : Addr} {fd__law_told_plan : FuncData} {f__law_odd : Addr} {fd__law_odd : FuncData} {f__law_others : Addr} {fd__law_others : FuncData} {f__law_got : Addr} {fd__law_got : FuncData} {f__law_due_k04 : Addr} {fd__law_due_k04 : FuncData} {f__law_odd_number : Addr} {fd__law_odd_number : FuncData} {f__law_parts : Addr} {fd__law_parts : FuncData} {f__law_deck : Addr} {fd__law_deck : FuncData} {C_Plan : Addr} {C_BadPlan : Addr} {C_NoTask : Addr} (Fn : Fun K "law" "law" s_law_k04 f fd)
    (m_range : mg "range" = none)
    (T__law_told_plan : FnT P w K mg base CX0 3 "_law_told_plan" f__law_told_plan fd__law_told_plan ["_law_plan"] (spD K 1 (fTold C_Plan)))
    (m_repr : mg "repr" = none)
    (T__law_odd : FnT P w K mg base CX0 3 "_law_odd" f__law_odd fd__law_odd ["_law_deck_here"] (spB K 0 fOdd))
    (T_Plan___eq___any : MtT P w K mg base CX0 1 C_Plan "__eq__" 1 (fEqA C_Plan))
    (is_Plan : IsC K C_Plan)
    (nf_Plan : NfC K C_Plan)
    (no_ne_Plan : PySem.W.findIn K (.ref C_Plan) "__ne__" = some (some (.builtin "object.__ne__")))
    (no_so_Plan : PySem.W.subIn K (.ref C_Plan) (.type "object") = some true)
    (T__law_others : FnT P w K mg base CX0 6 "_law_others" f__law_others fd__law_others ["_law_deck_here", "_law_tasks_here", "_law_order", "_law_workers"] (spB K 3 fOthers))
    (m_len : mg "len" = none)
    (T_Plan : PlanT P w K mg base 6 C_Plan C_BadPlan)
    (T_Plan___str__ : MtT P w K mg base CX0 1 C_Plan "__str__" 0 (fStrP C_Plan))
    (m_str : mg "str" = none)
    (T_Plan___len__ : MtT P w K mg base CX0 1 C_Plan "__len__" 0 (fLenP C_Plan))
    (T__law_got : FnT P w K mg base CX0 6 "_law_got" f__law_got fd__law_got ["_law_plan", "_law_number"] (spD K 2 (fGot C_Plan)))
    (T__law_due_k04 : FnT P w K mg base CX0 3 "_law_due" f__law_due_k04 fd__law_due_k04 ["_law_tasks_here", "_law_number"] (spD K 2 fDue4))
    (m_list : mg "list" = none)
    (T__law_odd_number : FnT P w K mg base CX0 3 "_law_odd_number" f__law_odd_number fd__law_odd_number ["_law_deck_here", "_law_many"] (spB K 1 fOddN))
    (T__law_parts : FnT P w K mg base CX0 5 "_law_parts" f__law_parts fd__law_parts ["_law_deck_here"] (spB K 0 fParts))
    (T__law_deck : FnT P w K mg base CX0 1 "_law_deck" f__law_deck fd__law_deck ["_law_script"] (spDeckD K)) (sm : ∃ mm, base.Ns sysModules mm) : GOk P w K mg base CX0 8 f fd ["_law_script"] (spLawD K) := by
  refine fn_law (k := 7) Fn sc_law_k04 ?_
  rintro X cdv A out s H E rfl gd hr
  exact ⟨t_law_k04 C_Plan C_BadPlan C_NoTask, fun F0 => (dss_cons (ds_deck (i := 1) T__law_deck hr sc_law_k04.nd (pv 0))
    (dss_cons (ds_for PassesOwn.never rfl (di_rg1 m_range (da_cons de_int da_nil)) (fun F1 s1 => (dg_name (i := 2) sc_law_k04.nd)) (fun F1 s1 => (dss_cons (ds_asg (dcallB T__law_parts hr (pv 1) da_nil) (dg_lst (n := 3) rfl (dgs_cons (dg_name (i := 3) sc_law_k04.nd) (dgs_cons (dg_name (i := 4) sc_law_k04.nd) (dgs_cons (dg_name (i := 5) sc_law_k04.nd) dgs_nil)))))
    (dss_cons (ds_set (i := 6) sc_law_k04.nd (dmake0 T_Plan hr (da_cons (de_of (dv_var (pv 3))) (da_cons (de_of (dv_var (pv 4))) (da_cons (de_of (dv_var (pv 5))) da_nil)))))
    (dss_cons (ds_set (i := 7) sc_law_k04.nd (de_of (dcat (dv_lstRg rfl m_list m_range (de_of (dv_b1 call_len_seq l_len m_len (dv_var (pv 3))))) (dv_lc [("_law_k", 15)] rfl sc_law_k04.nd (di_rg1 m_range (da_cons de_int da_nil)) (blkOk_by (N := ["_law_script", "_law_deck_here", "_law_turn", "_law_tasks_here", "_law_order", "_law_workers", "_law_plan", "_law_numbers", "_law_number", "_law_words", "_law_parts_here", "_law_value", "_law_other", "_law_same", "_law_told", "_law_k"]) (sc := defScope s_law_k04) (own := [("_law_k", 15)]) (by decide +kernel)) (fun F1 s1 _ _ _ _ _ => (dg_name (i := 15) sc_law_k04.nd)) (fun F1 s1 _ _ _ _ _ => dts_nil) (fun F1 s1 _ _ _ _ _ => (dcallB T__law_odd_number hr (pv 1) (da_cons (de_of (dv_b1 call_len_seq l_len m_len (dv_var (pv 3)))) da_nil)))))))
    (dss_cons (ds_for PassesOwn.never rfl (di_seq (dv_var (pv 7))) (fun F4 s4 => (dg_name (i := 8) sc_law_k04.nd)) (fun F4 s4 => (dss_one (ds_if (tneS (drepr gd hr.units sm m_repr (dv_of (dcall T__law_got hr (da_cons (de_of (dv_var (pv 6))) (da_cons (de_of (dv_var (pv 8))) da_nil))))) (drepr gd hr.units sm m_repr (dv_of (dcall T__law_due_k04 hr (da_cons (de_of (dv_var (pv 3))) (da_cons (de_of (dv_var (pv 8))) da_nil)))))) (dss_one (ds_ret (dv_of de_bl))) dss_nil))))
    (dss_cons (ds_set (i := 9) sc_law_k04.nd (de_of (dadd (dadd (dadd (dv_t1 call_str_int l_str m_str (dv_b1 call_len_seq l_len m_len (dv_var (pv 3)))) (dv_of de_str)) (dv_t1 call_str_int l_str m_str (dv_var (pv 5)))) (dv_of de_str))))
    (dss_cons (ds_if (tneS (drepr gd hr.units sm m_repr (dv_lst (da_cons (de_lenO T_Plan___len__ hr m_len (de_of (dv_var (pv 6)))) (da_cons (de_strO T_Plan___str__ hr m_str (de_of (dv_var (pv 6)))) da_nil)))) (drepr gd hr.units sm m_repr (dv_lst (da_cons (de_of (dv_b1 call_len_seq l_len m_len (dv_var (pv 3)))) (da_cons (de_of (dv_var (pv 9))) da_nil))))) (dss_one (ds_ret (dv_of de_bl))) dss_nil)
    (dss_cons (ds_for PassesOwn.never rfl (di_seq (dv_of (dcallB T__law_others hr (pv 1) (da_cons (de_of (dv_var (pv 3))) (da_cons (de_of (dv_var (pv 4))) (da_cons (de_of (dv_var (pv 5))) da_nil)))))) (fun F3 s3 => (dg_name (i := 10) sc_law_k04.nd)) (fun F3 s3 => (dss_one (ds_if (tlt (dv_b1 call_len_seq l_len m_len (dix (dv_var (pv 10)) (dv_of de_int))) (dv_of de_int)) (dss_cons (ds_par (i := 12) (j := 13) rfl sc_law_k04.nd (dv_of (dmake0 T_Plan hr (da_cons (de_of (dix (dv_var (pv 10)) (dv_of de_int))) (da_cons (de_of (dix (dv_var (pv 10)) (dv_of de_int))) (da_cons (de_of (dix (dv_var (pv 10)) (dv_of de_int))) da_nil))))) (deq hr.units (dv_var (pv 10)) (dv_lst (da_cons (de_of (dv_var (pv 3))) (da_cons (de_of (dv_var (pv 4))) (da_cons (de_of (dv_var (pv 5))) da_nil))))))
    (dss_cons (ds_set (i := 14) sc_law_k04.nd (de_of (dv_lst (da_cons (de_of (deqA T_Plan___eq___any is_Plan.ins nf_Plan hr (dv_var (pv 6)) (dv_var (pv 12)))) (da_cons (de_of (dneA T_Plan___eq___any is_Plan.ins nf_Plan no_ne_Plan no_so_Plan hr (dv_var (pv 6)) (dv_var (pv 12)))) (da_cons (de_of (deqA T_Plan___eq___any is_Plan.ins nf_Plan hr (dv_var (pv 12)) (dv_var (pv 6)))) da_nil))))))
    (dss_one (ds_if (tneS (drepr gd hr.units sm m_repr (dv_var (pv 14))) (drepr gd hr.units sm m_repr (dv_lst (da_cons (de_of (dv_var (pv 13))) (da_cons (de_of (dv_not (dv_var (pv 13)))) (da_cons (de_of (dv_var (pv 13))) da_nil)))))) (dss_one (ds_ret (dv_of de_bl))) dss_nil)))) dss_nil))))
    (dss_cons (ds_for PassesOwn.never rfl (di_seq (dv_lst (da_cons de_non (da_cons (de_of (dv_var (pv 3))) (da_cons (de_tup (da_cons (de_of (dv_var (pv 3))) (da_cons (de_of (dv_var (pv 4))) (da_cons (de_of (dv_var (pv 5))) da_nil)))) (da_cons (de_of (dv_var (pv 9))) (da_cons (de_of (dv_var (pv 5))) (da_cons de_bl (da_cons (de_of (dv_lst da_nil)) (da_cons (dcallB T__law_odd hr (pv 1) da_nil) da_nil)))))))))) (fun F2 s2 => (dg_name (i := 11) sc_law_k04.nd)) (fun F2 s2 => (dss_one (ds_if (tneS (drepr gd hr.units sm m_repr (dv_lst (da_cons (de_of (deqA T_Plan___eq___any is_Plan.ins nf_Plan hr (dv_var (pv 6)) (dv_var (pv 11)))) (da_cons (de_of (dneA T_Plan___eq___any is_Plan.ins nf_Plan no_ne_Plan no_so_Plan hr (dv_var (pv 6)) (dv_var (pv 11)))) da_nil)))) (drepr gd hr.units sm m_repr (dv_clst (da_ccons de_bl (da_ccons de_bl da_cnil))))) (dss_one (ds_ret (dv_of de_bl))) dss_nil))))
    (dss_one (ds_if (tneS (drepr gd hr.units sm m_repr (dv_of (dcall T__law_told_plan hr (da_cons (de_of (dv_var (pv 6))) da_nil)))) (drepr gd hr.units sm m_repr (dv_lst (da_cons (de_of (dv_var (pv 3))) (da_cons (de_of (dv_var (pv 4))) (da_cons (de_of (dv_var (pv 5))) da_nil)))))) (dss_one (ds_ret (dv_of de_bl))) dss_nil))))))))))))
    (dss_one (ds_ret (dv_of de_bl))))), rd_law_k04⟩
end
end Wk04
namespace Wk04
open PySem PySem.Spec PyProof.Rows L2 LL DL K01 KK
abbrev sI_BadPlan : Stmt := inC (topS 5) 0
abbrev sI_NoTask : Stmt := inC (topS 6) 0
theorem all_mk {l : PySem.W.OpenLaw} {w : World} {K : PySem.W.Frag} {h : Heap} {mg : Str → Option Value} {fa : Addr} {C_Plan : Addr} {f_Plan___eq___any : Addr} {oc_Plan___eq___any : Value} {kV_Plan___eq___any : Value} {dc_Plan___eq___any : Value} {pm_Plan___eq___any : Value} {cd_Plan___eq___any : Value} {ct_Plan___eq___any : Value} {od_Plan___eq___any : Option Addr} {an_Plan___eq___any : Option Addr} {sl_Plan___eq___any : Array (Option Value)} {f_all_ahead : Addr} {oc_all_ahead : Value} {kV_all_ahead : Value} {dc_all_ahead : Value} {pm_all_ahead : Value} {cd_all_ahead : Value} {ct_all_ahead : Value} {od_all_ahead : Option Addr} {an_all_ahead : Option Addr} {sl_all_ahead : Array (Option Value)} {f_is_whole_number : Addr} {oc_is_whole_number : Value} {kV_is_whole_number : Value} {dc_is_whole_number : Value} {pm_is_whole_number : Value} {cd_is_whole_number : Value} {ct_is_whole_number : Value} {od_is_whole_number : Option Addr} {an_is_whole_number : Option Addr} {sl_is_whole_number : Array (Option Value)} {f_is_number : Addr} {oc_is_number : Value} {kV_is_number : Value} {dc_is_number : Value} {pm_is_number : Value} {cd_is_number : Value} {ct_is_number : Value} {od_is_number : Option Addr} {an_is_number : Option Addr} {sl_is_number : Array (Option Value)} {f_is_ascending : Addr} {oc_is_ascending : Value} {kV_is_ascending : Value} {dc_is_ascending : Value} {pm_is_ascending : Value} {cd_is_ascending : Value} {ct_is_ascending : Value} {od_is_ascending : Option Addr} {an_is_ascending : Option Addr} {sl_is_ascending : Array (Option Value)} {f_is_below : Addr} {oc_is_below : Value} {kV_is_below : Value} {dc_is_below : Value} {pm_is_below : Value} {cd_is_below : Value} {ct_is_below : Value} {od_is_below : Option Addr} {an_is_below : Option Addr} {sl_is_below : Array (Option Value)} {f_common_divisor : Addr} {oc_common_divisor : Value} {kV_common_divisor : Value} {dc_common_divisor : Value} {pm_common_divisor : Value} {cd_common_divisor : Value} {ct_common_divisor : Value} {od_common_divisor : Option Addr} {an_common_divisor : Option Addr} {sl_common_divisor : Array (Option Value)} {f_is_fraction : Addr} {oc_is_fraction : Value} {kV_is_fraction : Value} {dc_is_fraction : Value} {pm_is_fraction : Value} {cd_is_fraction : Value} {ct_is_fraction : Value} {od_is_fraction : Option Addr} {an_is_fraction : Option Addr} {sl_is_fraction : Array (Option Value)} {f_wrong_word : Addr} {oc_wrong_word : Value} {kV_wrong_word : Value} {dc_wrong_word : Value} {pm_wrong_word : Value} {cd_wrong_word : Value} {ct_wrong_word : Value} {od_wrong_word : Option Addr} {an_wrong_word : Option Addr} {sl_wrong_word : Array (Option Value)} {C_BadPlan : Addr} {fI_BadPlan : Addr} {oI_BadPlan : Value} {kI_BadPlan : Value} {dI_BadPlan : Value} {pI_BadPlan : Value} {cI_BadPlan : Value} {tI_BadPlan : Value} {odI_BadPlan : Option Addr} {anI_BadPlan : Option Addr} {slI_BadPlan : Array (Option Value)} {v_MAX_TASKS : Tok} {f_check_tasks : Addr} {oc_check_tasks : Value} {kV_check_tasks : Value} {dc_check_tasks : Value} {pm_check_tasks : Value} {cd_check_tasks : Value} {ct_check_tasks : Value} {od_check_tasks : Option Addr} {an_check_tasks : Option Addr} {sl_check_tasks : Array (Option Value)} {f_check_order : Addr} {oc_check_order : Value} {kV_check_order : Value} {dc_check_order : Value} {pm_check_order : Value} {cd_check_order : Value} {ct_check_order : Value} {od_check_order : Option Addr} {an_check_order : Option Addr} {sl_check_order : Array (Option Value)} {v_MAX_WORKERS : Tok} {f_check_workers : Addr} {oc_check_workers : Value} {kV_check_workers : Value} {dc_check_workers : Value} {pm_check_workers : Value} {cd_check_workers : Value} {ct_check_workers : Value} {od_check_workers : Option Addr} {an_check_workers : Option Addr} {sl_check_workers : Array (Option Value)} {f_Plan___init__ : Addr} {oc_Plan___init__ : Value} {kV_Plan___init__ : Value} {dc_Plan___init__ : Value} {pm_Plan___init__ : Value} {cd_Plan___init__ : Value} {ct_Plan___init__ : Value} {od_Plan___init__ : Option Addr} {an_Plan___init__ : Option Addr} {sl_Plan___init__ : Array (Option Value)} {f_Plan___len__ : Addr} {oc_Plan___len__ : Value} {kV_Plan___len__ : Value} {dc_Plan___len__ : Value} {pm_Plan___len__ : Value} {cd_Plan___len__ : Value} {ct_Plan___len__ : Value} {od_Plan___len__ : Option Addr} {an_Plan___len__ : Option Addr} {sl_Plan___len__ : Array (Option Value)} {f_Plan___str__ : Addr} {oc_Plan___str__ : Value} {kV_Plan___str__ : Value} {dc_Plan___str__ : Value} {pm_Plan___str__ : Value} {cd_Plan___str__ : Value} {ct_Plan___str__ : Value} {od_Plan___str__ : Option Addr} {an_Plan___str__ : Option Addr} {sl_Plan___str__ : Array (Option Value)} {f__law_deck : Addr} {oc__law_deck : Value} {kV__law_deck : Value} {dc__law_deck : Value} {pm__law_deck : Value} {cd__law_deck : Value} {ct__law_deck : Value} {od__law_deck : Option Addr} {an__law_deck : Option Addr} {sl__law_deck : Array (Option Value)} {f__law_is_integer : Addr} {oc__law_is_integer : Value} {kV__law_is_integer : Value} {dc__law_is_integer : Value} {pm__law_is_integer : Value} {cd__law_is_integer : Value} {ct__law_is_integer : Value} {od__law_is_integer : Option Addr} {an__law_is_integer : Option Addr} {sl__law_is_integer : Array (Option Value)} {f__law_is_number : Addr} {oc__law_is_number : Value} {kV__law_is_number : Value} {dc__law_is_number : Value} {pm__law_is_number : Value} {cd__law_is_number : Value} {ct__law_is_number : Value} {od__law_is_number : Option Addr} {an__law_is_number : Option Addr} {sl__law_is_number : Array (Option Value)} {f__law_due_k04 : Addr} {oc__law_due_k04 : Value} {kV__law_due_k04 : Value} {dc__law_due_k04 : Value} {pm__law_due_k04 : Value} {cd__law_due_k04 : Value} {ct__law_due_k04 : Value} {od__law_due_k04 : Option Addr} {an__law_due_k04 : Option Addr} {sl__law_due_k04 : Array (Option Value)} {C_NoTask : Addr} {fI_NoTask : Addr} {oI_NoTask : Value} {kI_NoTask : Value} {dI_NoTask : Value} {pI_NoTask : Value} {cI_NoTask : Value} {tI_NoTask : Value} {odI_NoTask : Option Addr} {anI_NoTask : Option Addr} {slI_NoTask : Array (Option Value)} {f_Plan_check_number : Addr} {oc_Plan_check_number : Value} {kV_Plan_check_number : Value} {dc_Plan_check_number : Value} {pm_Plan_check_number : Value} {cd_Plan_check_number : Value} {ct_Plan_check_number : Value} {od_Plan_check_number : Option Addr} {an_Plan_check_number : Option Addr} {sl_Plan_check_number : Array (Option Value)} {f_Plan___getitem__ : Addr} {oc_Plan___getitem__ : Value} {kV_Plan___getitem__ : Value} {dc_Plan___getitem__ : Value} {pm_Plan___getitem__ : Value} {cd_Plan___getitem__ : Value} {ct_Plan___getitem__ : Value} {od_Plan___getitem__ : Option Addr} {an_Plan___getitem__ : Option Addr} {sl_Plan___getitem__ : Array (Option Value)} {f__law_told_none : Addr} {oc__law_told_none : Value} {kV__law_told_none : Value} {dc__law_told_none : Value} {pm__law_told_none : Value} {cd__law_told_none : Value} {ct__law_told_none : Value} {od__law_told_none : Option Addr} {an__law_told_none : Option Addr} {sl__law_told_none : Array (Option Value)} {f__law_got : Addr} {oc__law_got : Value} {kV__law_got : Value} {dc__law_got : Value} {pm__law_got : Value} {cd__law_got : Value} {ct__law_got : Value} {od__law_got : Option Addr} {an__law_got : Option Addr} {sl__law_got : Array (Option Value)} {f__law_take : Addr} {oc__law_take : Value} {kV__law_take : Value} {dc__law_take : Value} {pm__law_take : Value} {cd__law_take : Value} {ct__law_take : Value} {od__law_take : Option Addr} {an__law_take : Option Addr} {sl__law_take : Array (Option Value)} {f__law_one : Addr} {oc__law_one : Value} {kV__law_one : Value} {dc__law_one : Value} {pm__law_one : Value} {cd__law_one : Value} {ct__law_one : Value} {od__law_one : Option Addr} {an__law_one : Option Addr} {sl__law_one : Array (Option Value)} {f__law_odd : Addr} {oc__law_odd : Value} {kV__law_odd : Value} {dc__law_odd : Value} {pm__law_odd : Value} {cd__law_odd : Value} {ct__law_odd : Value} {od__law_odd : Option Addr} {an__law_odd : Option Addr} {sl__law_odd : Array (Option Value)} {f__law_odd_number : Addr} {oc__law_odd_number : Value} {kV__law_odd_number : Value} {dc__law_odd_number : Value} {pm__law_odd_number : Value} {cd__law_odd_number : Value} {ct__law_odd_number : Value} {od__law_odd_number : Option Addr} {an__law_odd_number : Option Addr} {sl__law_odd_number : Array (Option Value)} {f__law_frac : Addr} {oc__law_frac : Value} {kV__law_frac : Value} {dc__law_frac : Value} {pm__law_frac : Value} {cd__law_frac : Value} {ct__law_frac : Value} {od__law_frac : Option Addr} {an__law_frac : Option Addr} {sl__law_frac : Array (Option Value)} {f__law_mixed : Addr} {oc__law_mixed : Value} {kV__law_mixed : Value} {dc__law_mixed : Value} {pm__law_mixed : Value} {cd__law_mixed : Value} {ct__law_mixed : Value} {od__law_mixed : Option Addr} {an__law_mixed : Option Addr} {sl__law_mixed : Array (Option Value)} {f__law_plus : Addr} {oc__law_plus : Value} {kV__law_plus : Value} {dc__law_plus : Value} {pm__law_plus : Value} {cd__law_plus : Value} {ct__law_plus : Value} {od__law_plus : Option Addr} {an__law_plus : Option Addr} {sl__law_plus : Array (Option Value)} {f__law_span : Addr} {oc__law_span : Value} {kV__law_span : Value} {dc__law_span : Value} {pm__law_span : Value} {cd__law_span : Value} {ct__law_span : Value} {od__law_span : Option Addr} {an__law_span : Option Addr} {sl__law_span : Array (Option Value)} {f__law_tasks : Addr} {oc__law_tasks : Value} {kV__law_tasks : Value} {dc__law_tasks : Value} {pm__law_tasks : Value} {cd__law_tasks : Value} {ct__law_tasks : Value} {od__law_tasks : Option Addr} {an__law_tasks : Option Addr} {sl__law_tasks : Array (Option Value)} {f__law_parts : Addr} {oc__law_parts : Value} {kV__law_parts : Value} {dc__law_parts : Value} {pm__law_parts : Value} {cd__law_parts : Value} {ct__law_parts : Value} {od__law_parts : Option Addr} {an__law_parts : Option Addr} {sl__law_parts : Array (Option Value)} {f__law_with : Addr} {oc__law_with : Value} {kV__law_with : Value} {dc__law_with : Value} {pm__law_with : Value} {cd__law_with : Value} {ct__law_with : Value} {od__law_with : Option Addr} {an__law_with : Option Addr} {sl__law_with : Array (Option Value)} {f__law_others : Addr} {oc__law_others : Value} {kV__law_others : Value} {dc__law_others : Value} {pm__law_others : Value} {cd__law_others : Value} {ct__law_others : Value} {od__law_others : Option Addr} {an__law_others : Option Addr} {sl__law_others : Array (Option Value)} {f_Plan_order : Addr} {oc_Plan_order : Value} {kV_Plan_order : Value} {dc_Plan_order : Value} {pm_Plan_order : Value} {cd_Plan_order : Value} {ct_Plan_order : Value} {od_Plan_order : Option Addr} {an_Plan_order : Option Addr} {sl_Plan_order : Array (Option Value)} {pp_Plan_order : Addr} {rest_Plan_order : List Value} {f_Plan_tasks : Addr} {oc_Plan_tasks : Value} {kV_Plan_tasks : Value} {dc_Plan_tasks : Value} {pm_Plan_tasks : Value} {cd_Plan_tasks : Value} {ct_Plan_tasks : Value} {od_Plan_tasks : Option Addr} {an_Plan_tasks : Option Addr} {sl_Plan_tasks : Array (Option Value)} {pp_Plan_tasks : Addr} {rest_Plan_tasks : List Value} {f_Plan_workers : Addr} {oc_Plan_workers : Value} {kV_Plan_workers : Value} {dc_Plan_workers : Value} {pm_Plan_workers : Value} {cd_Plan_workers : Value} {ct_Plan_workers : Value} {od_Plan_workers : Option Addr} {an_Plan_workers : Option Addr} {sl_Plan_workers : Array (Option Value)} {pp_Plan_workers : Addr} {rest_Plan_workers : List Value} {f__law_told_plan : Addr} {oc__law_told_plan : Value} {kV__law_told_plan : Value} {dc__law_told_plan : Value} {pm__law_told_plan : Value} {cd__law_told_plan : Value} {ct__law_told_plan : Value} {od__law_told_plan : Option Addr} {an__law_told_plan : Option Addr} {sl__law_told_plan : Array (Option Value)} {oc_law_k04 : Value} {f_law_k04 : Addr} {kV_law_k04 : Value} {dc_law_k04 : Value} {pm_law_k04 : Value} {cd_law_k04 : Value} {ct_law_k04 : Value} {od_law_k04 : Option Addr} {an_law_k04 : Option Addr} {sl_law_k04 : Array (Option Value)}
    (KX : K.In h) (G : h.Ns mainGlobals mg) (hfa : mg "law" = some (.ref fa))
    (aC_Plan : PySem.W.nsIn K mainGlobals "Plan" = some (some (.ref C_Plan)))
    (pg_Plan : PySem.W.plainGet K C_Plan Str.empty = true)
    (hd_Plan : PySem.W.hasDictIn K C_Plan = true)
    (po_Plan : PySem.W.plainOver K C_Plan = true)
    (sa_Plan : PySem.W.findIn K (.ref C_Plan) "__setattr__" = some (some (.builtin "object.__setattr__")))
    (na_Plan_held_workers : PySem.W.findIn K (.ref C_Plan) "held_workers" = some none)
    (na_Plan_held_order : PySem.W.findIn K (.ref C_Plan) "held_order" = some none)
    (na_Plan_held_tasks : PySem.W.findIn K (.ref C_Plan) "held_tasks" = some none)
    (cgsp : PySem.W.specialIn K (.builtin "object.__class__") "__get__" = some (some (.builtin "getset_descriptor.__get__")))
    (cgtk : PySem.W.takesIn K (.builtin "object.__class__") = some true)
    (ic_Plan : PySem.W.findIn K (.ref C_Plan) "__class__" = some (some (.builtin "object.__class__")))
    (im_Plan : PySem.W.mroIn K C_Plan (.type "object") = some true)
    (kt_Plan_Plan : PySem.W.kitOne K (.ref C_Plan) (.ref C_Plan) = some true)
    (kt_NoneType_Plan : PySem.W.kitOne K (.type "NoneType") (.ref C_Plan) = some false)
    (kt_bool_Plan : PySem.W.kitOne K (.type "bool") (.ref C_Plan) = some false)
    (kt_int_Plan : PySem.W.kitOne K (.type "int") (.ref C_Plan) = some false)
    (kt_str_Plan : PySem.W.kitOne K (.type "str") (.ref C_Plan) = some false)
    (kt_list_Plan : PySem.W.kitOne K (.type "list") (.ref C_Plan) = some false)
    (kt_tuple_Plan : PySem.W.kitOne K (.type "tuple") (.ref C_Plan) = some false)
    (kt_dict_Plan : PySem.W.kitOne K (.type "dict") (.ref C_Plan) = some false)
    (z_isinstance : PySem.W.nsIn K mainGlobals "isinstance" = some none)
    (at_Plan___eq___any : PySem.W.findIn K (.ref C_Plan) "__eq__" = some (some (.ref f_Plan___eq___any)))
    (fn_Plan___eq___any : PySem.W.isFn K (.ref f_Plan___eq___any) = true)
    (l_Plan___eq___any : K.lookup f_Plan___eq___any = some ⟨oc_Plan___eq___any, od_Plan___eq___any, .func (PySem.W.fnOf "__eq__" "Plan.__eq__" (defArgs s_Plan___eq___any) (defBody s_Plan___eq___any) (defScope s_Plan___eq___any) .none kV_Plan___eq___any dc_Plan___eq___any pm_Plan___eq___any an_Plan___eq___any cd_Plan___eq___any ct_Plan___eq___any), sl_Plan___eq___any⟩)
    (c_Plan___eq___any : PySem.W.codeIn K cd_Plan___eq___any "Plan.__eq__" = true)
    (k_Plan___eq___any : PySem.W.keepIn K (.ref f_Plan___eq___any) = true)
    (z_list : PySem.W.nsIn K mainGlobals "list" = some none)
    (a_all_ahead : PySem.W.nsIn K mainGlobals "all_ahead" = some (some (.ref f_all_ahead)))
    (l_all_ahead : K.lookup f_all_ahead = some ⟨oc_all_ahead, od_all_ahead, .func (PySem.W.fnOf "all_ahead" "all_ahead" (defArgs s_all_ahead) (defBody s_all_ahead) (defScope s_all_ahead) .none kV_all_ahead dc_all_ahead pm_all_ahead an_all_ahead cd_all_ahead ct_all_ahead), sl_all_ahead⟩)
    (c_all_ahead : PySem.W.codeIn K cd_all_ahead "all_ahead" = true)
    (k_all_ahead : PySem.W.keepIn K (.ref f_all_ahead) = true)
    (z_bool : PySem.W.nsIn K mainGlobals "bool" = some none)
    (z_int : PySem.W.nsIn K mainGlobals "int" = some none)
    (a_is_whole_number : PySem.W.nsIn K mainGlobals "is_whole_number" = some (some (.ref f_is_whole_number)))
    (l_is_whole_number : K.lookup f_is_whole_number = some ⟨oc_is_whole_number, od_is_whole_number, .func (PySem.W.fnOf "is_whole_number" "is_whole_number" (defArgs s_is_whole_number) (defBody s_is_whole_number) (defScope s_is_whole_number) .none kV_is_whole_number dc_is_whole_number pm_is_whole_number an_is_whole_number cd_is_whole_number ct_is_whole_number), sl_is_whole_number⟩)
    (c_is_whole_number : PySem.W.codeIn K cd_is_whole_number "is_whole_number" = true)
    (k_is_whole_number : PySem.W.keepIn K (.ref f_is_whole_number) = true)
    (a_is_number : PySem.W.nsIn K mainGlobals "is_number" = some (some (.ref f_is_number)))
    (l_is_number : K.lookup f_is_number = some ⟨oc_is_number, od_is_number, .func (PySem.W.fnOf "is_number" "is_number" (defArgs s_is_number) (defBody s_is_number) (defScope s_is_number) .none kV_is_number dc_is_number pm_is_number an_is_number cd_is_number ct_is_number), sl_is_number⟩)
    (c_is_number : PySem.W.codeIn K cd_is_number "is_number" = true)
    (k_is_number : PySem.W.keepIn K (.ref f_is_number) = true)
    (z_zip : PySem.W.nsIn K mainGlobals "zip" = some none)
    (z_all : PySem.W.nsIn K mainGlobals "all" = some none)
    (z_tuple : PySem.W.nsIn K mainGlobals "tuple" = some none)
    (a_is_ascending : PySem.W.nsIn K mainGlobals "is_ascending" = some (some (.ref f_is_ascending)))
    (l_is_ascending : K.lookup f_is_ascending = some ⟨oc_is_ascending, od_is_ascending, .func (PySem.W.fnOf "is_ascending" "is_ascending" (defArgs s_is_ascending) (defBody s_is_ascending) (defScope s_is_ascending) .none kV_is_ascending dc_is_ascending pm_is_ascending an_is_ascending cd_is_ascending ct_is_ascending), sl_is_ascending⟩)
    (c_is_ascending : PySem.W.codeIn K cd_is_ascending "is_ascending" = true)
    (k_is_ascending : PySem.W.keepIn K (.ref f_is_ascending) = true)
    (a_is_below : PySem.W.nsIn K mainGlobals "is_below" = some (some (.ref f_is_below)))
    (l_is_below : K.lookup f_is_below = some ⟨oc_is_below, od_is_below, .func (PySem.W.fnOf "is_below" "is_below" (defArgs s_is_below) (defBody s_is_below) (defScope s_is_below) .none kV_is_below dc_is_below pm_is_below an_is_below cd_is_below ct_is_below), sl_is_below⟩)
    (c_is_below : PySem.W.codeIn K cd_is_below "is_below" = true)
    (k_is_below : PySem.W.keepIn K (.ref f_is_below) = true)
    (z_abs : PySem.W.nsIn K mainGlobals "abs" = some none)
    (a_common_divisor : PySem.W.nsIn K mainGlobals "common_divisor" = some (some (.ref f_common_divisor)))
    (l_common_divisor : K.lookup f_common_divisor = some ⟨oc_common_divisor, od_common_divisor, .func (PySem.W.fnOf "common_divisor" "common_divisor" (defArgs s_common_divisor) (defBody s_common_divisor) (defScope s_common_divisor) .none kV_common_divisor dc_common_divisor pm_common_divisor an_common_divisor cd_common_divisor ct_common_divisor), sl_common_divisor⟩)
    (c_common_divisor : PySem.W.codeIn K cd_common_divisor "common_divisor" = true)
    (k_common_divisor : PySem.W.keepIn K (.ref f_common_divisor) = true)
    (z_len : PySem.W.nsIn K mainGlobals "len" = some none)
    (a_is_fraction : PySem.W.nsIn K mainGlobals "is_fraction" = some (some (.ref f_is_fraction)))
    (l_is_fraction : K.lookup f_is_fraction = some ⟨oc_is_fraction, od_is_fraction, .func (PySem.W.fnOf "is_fraction" "is_fraction" (defArgs s_is_fraction) (defBody s_is_fraction) (defScope s_is_fraction) .none kV_is_fraction dc_is_fraction pm_is_fraction an_is_fraction cd_is_fraction ct_is_fraction), sl_is_fraction⟩)
    (c_is_fraction : PySem.W.codeIn K cd_is_fraction "is_fraction" = true)
    (k_is_fraction : PySem.W.keepIn K (.ref f_is_fraction) = true)
    (a_wrong_word : PySem.W.nsIn K mainGlobals "wrong_word" = some (some (.ref f_wrong_word)))
    (l_wrong_word : K.lookup f_wrong_word = some ⟨oc_wrong_word, od_wrong_word, .func (PySem.W.fnOf "wrong_word" "wrong_word" (defArgs s_wrong_word) (defBody s_wrong_word) (defScope s_wrong_word) .none kV_wrong_word dc_wrong_word pm_wrong_word an_wrong_word cd_wrong_word ct_wrong_word), sl_wrong_word⟩)
    (c_wrong_word : PySem.W.codeIn K cd_wrong_word "wrong_word" = true)
    (k_wrong_word : PySem.W.keepIn K (.ref f_wrong_word) = true)
    (aC_BadPlan : PySem.W.nsIn K mainGlobals "BadPlan" = some (some (.ref C_BadPlan)))
    (z_range : PySem.W.nsIn K mainGlobals "range" = some none)
    (z_any : PySem.W.nsIn K mainGlobals "any" = some none)
    (ee_BadPlan : ercB K C_BadPlan = true)
    (tt_BadPlan : extB K C_BadPlan veB "ValueError.__new__" = true)
    (no_BadPlan_number : PySem.W.findIn K (.ref C_BadPlan) "number" = some none)
    (no_BadPlan_word : PySem.W.findIn K (.ref C_BadPlan) "word" = some none)
    (iC_BadPlan : PySem.W.findIn K (.ref C_BadPlan) "__init__" = some (some (.ref fI_BadPlan)))
    (tyI_BadPlan : PySem.W.typeIn K (.ref fI_BadPlan) = some (.type "function"))
    (lI_BadPlan : K.lookup fI_BadPlan = some ⟨oI_BadPlan, odI_BadPlan, .func (PySem.W.fnOf "__init__" "BadPlan.__init__" (defArgs sI_BadPlan) (defBody sI_BadPlan) (defScope sI_BadPlan) .none kI_BadPlan dI_BadPlan pI_BadPlan anI_BadPlan cI_BadPlan tI_BadPlan), slI_BadPlan⟩)
    (cdI_BadPlan : PySem.W.codeIn K cI_BadPlan "BadPlan.__init__" = true)
    (kpI_BadPlan : PySem.W.keepIn K (.ref fI_BadPlan) = true)
    (t_BadPlan : PySem.W.typeIn K (.ref C_BadPlan) = some (.type "type"))
    (z_enumerate : PySem.W.nsIn K mainGlobals "enumerate" = some none)
    (gg_MAX_TASKS : PySem.W.nsIn K mainGlobals "MAX_TASKS" = some (some (.int 5 v_MAX_TASKS)))
    (a_check_tasks : PySem.W.nsIn K mainGlobals "check_tasks" = some (some (.ref f_check_tasks)))
    (l_check_tasks : K.lookup f_check_tasks = some ⟨oc_check_tasks, od_check_tasks, .func (PySem.W.fnOf "check_tasks" "check_tasks" (defArgs s_check_tasks) (defBody s_check_tasks) (defScope s_check_tasks) .none kV_check_tasks dc_check_tasks pm_check_tasks an_check_tasks cd_check_tasks ct_check_tasks), sl_check_tasks⟩)
    (c_check_tasks : PySem.W.codeIn K cd_check_tasks "check_tasks" = true)
    (k_check_tasks : PySem.W.keepIn K (.ref f_check_tasks) = true)
    (z_sorted : PySem.W.nsIn K mainGlobals "sorted" = some none)
    (a_check_order : PySem.W.nsIn K mainGlobals "check_order" = some (some (.ref f_check_order)))
    (l_check_order : K.lookup f_check_order = some ⟨oc_check_order, od_check_order, .func (PySem.W.fnOf "check_order" "check_order" (defArgs s_check_order) (defBody s_check_order) (defScope s_check_order) .none kV_check_order dc_check_order pm_check_order an_check_order cd_check_order ct_check_order), sl_check_order⟩)
    (c_check_order : PySem.W.codeIn K cd_check_order "check_order" = true)
    (k_check_order : PySem.W.keepIn K (.ref f_check_order) = true)
    (gg_MAX_WORKERS : PySem.W.nsIn K mainGlobals "MAX_WORKERS" = some (some (.int 3 v_MAX_WORKERS)))
    (a_check_workers : PySem.W.nsIn K mainGlobals "check_workers" = some (some (.ref f_check_workers)))
    (l_check_workers : K.lookup f_check_workers = some ⟨oc_check_workers, od_check_workers, .func (PySem.W.fnOf "check_workers" "check_workers" (defArgs s_check_workers) (defBody s_check_workers) (defScope s_check_workers) .none kV_check_workers dc_check_workers pm_check_workers an_check_workers cd_check_workers ct_check_workers), sl_check_workers⟩)
    (c_check_workers : PySem.W.codeIn K cd_check_workers "check_workers" = true)
    (k_check_workers : PySem.W.keepIn K (.ref f_check_workers) = true)
    (at_Plan___init__ : PySem.W.findIn K (.ref C_Plan) "__init__" = some (some (.ref f_Plan___init__)))
    (fn_Plan___init__ : PySem.W.isFn K (.ref f_Plan___init__) = true)
    (l_Plan___init__ : K.lookup f_Plan___init__ = some ⟨oc_Plan___init__, od_Plan___init__, .func (PySem.W.fnOf "__init__" "Plan.__init__" (defArgs s_Plan___init__) (defBody s_Plan___init__) (defScope s_Plan___init__) .none kV_Plan___init__ dc_Plan___init__ pm_Plan___init__ an_Plan___init__ cd_Plan___init__ ct_Plan___init__), sl_Plan___init__⟩)
    (c_Plan___init__ : PySem.W.codeIn K cd_Plan___init__ "Plan.__init__" = true)
    (k_Plan___init__ : PySem.W.keepIn K (.ref f_Plan___init__) = true)
    (mk_Plan : PySem.W.makesIn K C_Plan = true)
    (kpC_Plan : PySem.W.keepIn K (.ref C_Plan) = true)
    (at_Plan___len__ : PySem.W.findIn K (.ref C_Plan) "__len__" = some (some (.ref f_Plan___len__)))
    (fn_Plan___len__ : PySem.W.isFn K (.ref f_Plan___len__) = true)
    (l_Plan___len__ : K.lookup f_Plan___len__ = some ⟨oc_Plan___len__, od_Plan___len__, .func (PySem.W.fnOf "__len__" "Plan.__len__" (defArgs s_Plan___len__) (defBody s_Plan___len__) (defScope s_Plan___len__) .none kV_Plan___len__ dc_Plan___len__ pm_Plan___len__ an_Plan___len__ cd_Plan___len__ ct_Plan___len__), sl_Plan___len__⟩)
    (c_Plan___len__ : PySem.W.codeIn K cd_Plan___len__ "Plan.__len__" = true)
    (k_Plan___len__ : PySem.W.keepIn K (.ref f_Plan___len__) = true)
    (at_Plan___str__ : PySem.W.findIn K (.ref C_Plan) "__str__" = some (some (.ref f_Plan___str__)))
    (fn_Plan___str__ : PySem.W.isFn K (.ref f_Plan___str__) = true)
    (l_Plan___str__ : K.lookup f_Plan___str__ = some ⟨oc_Plan___str__, od_Plan___str__, .func (PySem.W.fnOf "__str__" "Plan.__str__" (defArgs s_Plan___str__) (defBody s_Plan___str__) (defScope s_Plan___str__) .none kV_Plan___str__ dc_Plan___str__ pm_Plan___str__ an_Plan___str__ cd_Plan___str__ ct_Plan___str__), sl_Plan___str__⟩)
    (c_Plan___str__ : PySem.W.codeIn K cd_Plan___str__ "Plan.__str__" = true)
    (k_Plan___str__ : PySem.W.keepIn K (.ref f_Plan___str__) = true)
    (a__law_deck : PySem.W.nsIn K mainGlobals "_law_deck" = some (some (.ref f__law_deck)))
    (l__law_deck : K.lookup f__law_deck = some ⟨oc__law_deck, od__law_deck, .func (PySem.W.fnOf "_law_deck" "_law_deck" (defArgs s__law_deck) (defBody s__law_deck) (defScope s__law_deck) .none kV__law_deck dc__law_deck pm__law_deck an__law_deck cd__law_deck ct__law_deck), sl__law_deck⟩)
    (c__law_deck : PySem.W.codeIn K cd__law_deck "_law_deck" = true)
    (k__law_deck : PySem.W.keepIn K (.ref f__law_deck) = true)
    (a__law_is_integer : PySem.W.nsIn K mainGlobals "_law_is_integer" = some (some (.ref f__law_is_integer)))
    (l__law_is_integer : K.lookup f__law_is_integer = some ⟨oc__law_is_integer, od__law_is_integer, .func (PySem.W.fnOf "_law_is_integer" "_law_is_integer" (defArgs s__law_is_integer) (defBody s__law_is_integer) (defScope s__law_is_integer) .none kV__law_is_integer dc__law_is_integer pm__law_is_integer an__law_is_integer cd__law_is_integer ct__law_is_integer), sl__law_is_integer⟩)
    (c__law_is_integer : PySem.W.codeIn K cd__law_is_integer "_law_is_integer" = true)
    (k__law_is_integer : PySem.W.keepIn K (.ref f__law_is_integer) = true)
    (a__law_is_number : PySem.W.nsIn K mainGlobals "_law_is_number" = some (some (.ref f__law_is_number)))
    (l__law_is_number : K.lookup f__law_is_number = some ⟨oc__law_is_number, od__law_is_number, .func (PySem.W.fnOf "_law_is_number" "_law_is_number" (defArgs s__law_is_number) (defBody s__law_is_number) (defScope s__law_is_number) .none kV__law_is_number dc__law_is_number pm__law_is_number an__law_is_number cd__law_is_number ct__law_is_number), sl__law_is_number⟩)
    (c__law_is_number : PySem.W.codeIn K cd__law_is_number "_law_is_number" = true)
    (k__law_is_number : PySem.W.keepIn K (.ref f__law_is_number) = true)
    (a__law_due_k04 : PySem.W.nsIn K mainGlobals "_law_due" = some (some (.ref f__law_due_k04)))
    (l__law_due_k04 : K.lookup f__law_due_k04 = some ⟨oc__law_due_k04, od__law_due_k04, .func (PySem.W.fnOf "_law_due" "_law_due" (defArgs s__law_due_k04) (defBody s__law_due_k04) (defScope s__law_due_k04) .none kV__law_due_k04 dc__law_due_k04 pm__law_due_k04 an__law_due_k04 cd__law_due_k04 ct__law_due_k04), sl__law_due_k04⟩)
    (c__law_due_k04 : PySem.W.codeIn K cd__law_due_k04 "_law_due" = true)
    (k__law_due_k04 : PySem.W.keepIn K (.ref f__law_due_k04) = true)
    (aC_NoTask : PySem.W.nsIn K mainGlobals "NoTask" = some (some (.ref C_NoTask)))
    (ee_NoTask : ercB K C_NoTask = true)
    (tt_NoTask : extB K C_NoTask leB "LookupError.__new__" = true)
    (no_NoTask_number : PySem.W.findIn K (.ref C_NoTask) "number" = some none)
    (iC_NoTask : PySem.W.findIn K (.ref C_NoTask) "__init__" = some (some (.ref fI_NoTask)))
    (tyI_NoTask : PySem.W.typeIn K (.ref fI_NoTask) = some (.type "function"))
    (lI_NoTask : K.lookup fI_NoTask = some ⟨oI_NoTask, odI_NoTask, .func (PySem.W.fnOf "__init__" "NoTask.__init__" (defArgs sI_NoTask) (defBody sI_NoTask) (defScope sI_NoTask) .none kI_NoTask dI_NoTask pI_NoTask anI_NoTask cI_NoTask tI_NoTask), slI_NoTask⟩)
    (cdI_NoTask : PySem.W.codeIn K cI_NoTask "NoTask.__init__" = true)
    (kpI_NoTask : PySem.W.keepIn K (.ref fI_NoTask) = true)
    (t_NoTask : PySem.W.typeIn K (.ref C_NoTask) = some (.type "type"))
    (at_Plan_check_number : PySem.W.findIn K (.ref C_Plan) "check_number" = some (some (.ref f_Plan_check_number)))
    (fn_Plan_check_number : PySem.W.isFn K (.ref f_Plan_check_number) = true)
    (l_Plan_check_number : K.lookup f_Plan_check_number = some ⟨oc_Plan_check_number, od_Plan_check_number, .func (PySem.W.fnOf "check_number" "Plan.check_number" (defArgs s_Plan_check_number) (defBody s_Plan_check_number) (defScope s_Plan_check_number) .none kV_Plan_check_number dc_Plan_check_number pm_Plan_check_number an_Plan_check_number cd_Plan_check_number ct_Plan_check_number), sl_Plan_check_number⟩)
    (c_Plan_check_number : PySem.W.codeIn K cd_Plan_check_number "Plan.check_number" = true)
    (k_Plan_check_number : PySem.W.keepIn K (.ref f_Plan_check_number) = true)
    (at_Plan___getitem__ : PySem.W.findIn K (.ref C_Plan) "__getitem__" = some (some (.ref f_Plan___getitem__)))
    (fn_Plan___getitem__ : PySem.W.isFn K (.ref f_Plan___getitem__) = true)
    (l_Plan___getitem__ : K.lookup f_Plan___getitem__ = some ⟨oc_Plan___getitem__, od_Plan___getitem__, .func (PySem.W.fnOf "__getitem__" "Plan.__getitem__" (defArgs s_Plan___getitem__) (defBody s_Plan___getitem__) (defScope s_Plan___getitem__) .none kV_Plan___getitem__ dc_Plan___getitem__ pm_Plan___getitem__ an_Plan___getitem__ cd_Plan___getitem__ ct_Plan___getitem__), sl_Plan___getitem__⟩)
    (c_Plan___getitem__ : PySem.W.codeIn K cd_Plan___getitem__ "Plan.__getitem__" = true)
    (k_Plan___getitem__ : PySem.W.keepIn K (.ref f_Plan___getitem__) = true)
    (fi_Plan___getitem__ : PySem.W.fnIn K f_Plan___getitem__ = true)
    (z_ValueError : PySem.W.nsIn K mainGlobals "ValueError" = some none)
    (kt_NoTask_ValueError : PySem.W.kitOne K (.ref C_NoTask) (.type "ValueError") = some false)
    (z_LookupError : PySem.W.nsIn K mainGlobals "LookupError" = some none)
    (kt_NoTask_LookupError : PySem.W.kitOne K (.ref C_NoTask) (.type "LookupError") = some true)
    (a__law_told_none : PySem.W.nsIn K mainGlobals "_law_told_none" = some (some (.ref f__law_told_none)))
    (l__law_told_none : K.lookup f__law_told_none = some ⟨oc__law_told_none, od__law_told_none, .func (PySem.W.fnOf "_law_told_none" "_law_told_none" (defArgs s__law_told_none) (defBody s__law_told_none) (defScope s__law_told_none) .none kV__law_told_none dc__law_told_none pm__law_told_none an__law_told_none cd__law_told_none ct__law_told_none), sl__law_told_none⟩)
    (c__law_told_none : PySem.W.codeIn K cd__law_told_none "_law_told_none" = true)
    (k__law_told_none : PySem.W.keepIn K (.ref f__law_told_none) = true)
    (x_NoTask_NoTask : PySem.W.exmOne K (.ref C_NoTask) (.ref C_NoTask) = some true)
    (a__law_got : PySem.W.nsIn K mainGlobals "_law_got" = some (some (.ref f__law_got)))
    (l__law_got : K.lookup f__law_got = some ⟨oc__law_got, od__law_got, .func (PySem.W.fnOf "_law_got" "_law_got" (defArgs s__law_got) (defBody s__law_got) (defScope s__law_got) .none kV__law_got dc__law_got pm__law_got an__law_got cd__law_got ct__law_got), sl__law_got⟩)
    (c__law_got : PySem.W.codeIn K cd__law_got "_law_got" = true)
    (k__law_got : PySem.W.keepIn K (.ref f__law_got) = true)
    (a__law_take : PySem.W.nsIn K mainGlobals "_law_take" = some (some (.ref f__law_take)))
    (l__law_take : K.lookup f__law_take = some ⟨oc__law_take, od__law_take, .func (PySem.W.fnOf "_law_take" "_law_take" (defArgs s__law_take) (defBody s__law_take) (defScope s__law_take) .none kV__law_take dc__law_take pm__law_take an__law_take cd__law_take ct__law_take), sl__law_take⟩)
    (c__law_take : PySem.W.codeIn K cd__law_take "_law_take" = true)
    (k__law_take : PySem.W.keepIn K (.ref f__law_take) = true)
    (a__law_one : PySem.W.nsIn K mainGlobals "_law_one" = some (some (.ref f__law_one)))
    (l__law_one : K.lookup f__law_one = some ⟨oc__law_one, od__law_one, .func (PySem.W.fnOf "_law_one" "_law_one" (defArgs s__law_one) (defBody s__law_one) (defScope s__law_one) .none kV__law_one dc__law_one pm__law_one an__law_one cd__law_one ct__law_one), sl__law_one⟩)
    (c__law_one : PySem.W.codeIn K cd__law_one "_law_one" = true)
    (k__law_one : PySem.W.keepIn K (.ref f__law_one) = true)
    (a__law_odd : PySem.W.nsIn K mainGlobals "_law_odd" = some (some (.ref f__law_odd)))
    (l__law_odd : K.lookup f__law_odd = some ⟨oc__law_odd, od__law_odd, .func (PySem.W.fnOf "_law_odd" "_law_odd" (defArgs s__law_odd) (defBody s__law_odd) (defScope s__law_odd) .none kV__law_odd dc__law_odd pm__law_odd an__law_odd cd__law_odd ct__law_odd), sl__law_odd⟩)
    (c__law_odd : PySem.W.codeIn K cd__law_odd "_law_odd" = true)
    (k__law_odd : PySem.W.keepIn K (.ref f__law_odd) = true)
    (a__law_odd_number : PySem.W.nsIn K mainGlobals "_law_odd_number" = some (some (.ref f__law_odd_number)))
    (l__law_odd_number : K.lookup f__law_odd_number = some ⟨oc__law_odd_number, od__law_odd_number, .func (PySem.W.fnOf "_law_odd_number" "_law_odd_number" (defArgs s__law_odd_number) (defBody s__law_odd_number) (defScope s__law_odd_number) .none kV__law_odd_number dc__law_odd_number pm__law_odd_number an__law_odd_number cd__law_odd_number ct__law_odd_number), sl__law_odd_number⟩)
    (c__law_odd_number : PySem.W.codeIn K cd__law_odd_number "_law_odd_number" = true)
    (k__law_odd_number : PySem.W.keepIn K (.ref f__law_odd_number) = true)
    (a__law_frac : PySem.W.nsIn K mainGlobals "_law_frac" = some (some (.ref f__law_frac)))
    (l__law_frac : K.lookup f__law_frac = some ⟨oc__law_frac, od__law_frac, .func (PySem.W.fnOf "_law_frac" "_law_frac" (defArgs s__law_frac) (defBody s__law_frac) (defScope s__law_frac) .none kV__law_frac dc__law_frac pm__law_frac an__law_frac cd__law_frac ct__law_frac), sl__law_frac⟩)
    (c__law_frac : PySem.W.codeIn K cd__law_frac "_law_frac" = true)
    (k__law_frac : PySem.W.keepIn K (.ref f__law_frac) = true)
    (a__law_mixed : PySem.W.nsIn K mainGlobals "_law_mixed" = some (some (.ref f__law_mixed)))
    (l__law_mixed : K.lookup f__law_mixed = some ⟨oc__law_mixed, od__law_mixed, .func (PySem.W.fnOf "_law_mixed" "_law_mixed" (defArgs s__law_mixed) (defBody s__law_mixed) (defScope s__law_mixed) .none kV__law_mixed dc__law_mixed pm__law_mixed an__law_mixed cd__law_mixed ct__law_mixed), sl__law_mixed⟩)
    (c__law_mixed : PySem.W.codeIn K cd__law_mixed "_law_mixed" = true)
    (k__law_mixed : PySem.W.keepIn K (.ref f__law_mixed) = true)
    (a__law_plus : PySem.W.nsIn K mainGlobals "_law_plus" = some (some (.ref f__law_plus)))
    (l__law_plus : K.lookup f__law_plus = some ⟨oc__law_plus, od__law_plus, .func (PySem.W.fnOf "_law_plus" "_law_plus" (defArgs s__law_plus) (defBody s__law_plus) (defScope s__law_plus) .none kV__law_plus dc__law_plus pm__law_plus an__law_plus cd__law_plus ct__law_plus), sl__law_plus⟩)
    (c__law_plus : PySem.W.codeIn K cd__law_plus "_law_plus" = true)
    (k__law_plus : PySem.W.keepIn K (.ref f__law_plus) = true)
    (a__law_span : PySem.W.nsIn K mainGlobals "_law_span" = some (some (.ref f__law_span)))
    (l__law_span : K.lookup f__law_span = some ⟨oc__law_span, od__law_span, .func (PySem.W.fnOf "_law_span" "_law_span" (defArgs s__law_span) (defBody s__law_span) (defScope s__law_span) .none kV__law_span dc__law_span pm__law_span an__law_span cd__law_span ct__law_span), sl__law_span⟩)
    (c__law_span : PySem.W.codeIn K cd__law_span "_law_span" = true)
    (k__law_span : PySem.W.keepIn K (.ref f__law_span) = true)
    (a__law_tasks : PySem.W.nsIn K mainGlobals "_law_tasks" = some (some (.ref f__law_tasks)))
    (l__law_tasks : K.lookup f__law_tasks = some ⟨oc__law_tasks, od__law_tasks, .func (PySem.W.fnOf "_law_tasks" "_law_tasks" (defArgs s__law_tasks) (defBody s__law_tasks) (defScope s__law_tasks) .none kV__law_tasks dc__law_tasks pm__law_tasks an__law_tasks cd__law_tasks ct__law_tasks), sl__law_tasks⟩)
    (c__law_tasks : PySem.W.codeIn K cd__law_tasks "_law_tasks" = true)
    (k__law_tasks : PySem.W.keepIn K (.ref f__law_tasks) = true)
    (a__law_parts : PySem.W.nsIn K mainGlobals "_law_parts" = some (some (.ref f__law_parts)))
    (l__law_parts : K.lookup f__law_parts = some ⟨oc__law_parts, od__law_parts, .func (PySem.W.fnOf "_law_parts" "_law_parts" (defArgs s__law_parts) (defBody s__law_parts) (defScope s__law_parts) .none kV__law_parts dc__law_parts pm__law_parts an__law_parts cd__law_parts ct__law_parts), sl__law_parts⟩)
    (c__law_parts : PySem.W.codeIn K cd__law_parts "_law_parts" = true)
    (k__law_parts : PySem.W.keepIn K (.ref f__law_parts) = true)
    (a__law_with : PySem.W.nsIn K mainGlobals "_law_with" = some (some (.ref f__law_with)))
    (l__law_with : K.lookup f__law_with = some ⟨oc__law_with, od__law_with, .func (PySem.W.fnOf "_law_with" "_law_with" (defArgs s__law_with) (defBody s__law_with) (defScope s__law_with) .none kV__law_with dc__law_with pm__law_with an__law_with cd__law_with ct__law_with), sl__law_with⟩)
    (c__law_with : PySem.W.codeIn K cd__law_with "_law_with" = true)
    (k__law_with : PySem.W.keepIn K (.ref f__law_with) = true)
    (a__law_others : PySem.W.nsIn K mainGlobals "_law_others" = some (some (.ref f__law_others)))
    (l__law_others : K.lookup f__law_others = some ⟨oc__law_others, od__law_others, .func (PySem.W.fnOf "_law_others" "_law_others" (defArgs s__law_others) (defBody s__law_others) (defScope s__law_others) .none kV__law_others dc__law_others pm__law_others an__law_others cd__law_others ct__law_others), sl__law_others⟩)
    (c__law_others : PySem.W.codeIn K cd__law_others "_law_others" = true)
    (k__law_others : PySem.W.keepIn K (.ref f__law_others) = true)
    (at_Plan_order : PySem.W.findIn K (.ref C_Plan) "order" = some (some (.ref pp_Plan_order)))
    (gt_Plan_order : PySem.W.specialIn K (.ref pp_Plan_order) "__get__" = some (some (.builtin "property.__get__")))
    (tk_Plan_order : PySem.W.takesIn K (.ref pp_Plan_order) = some true)
    (rc_Plan_order : PySem.W.recIn K pp_Plan_order "property" = some (.ref f_Plan_order :: rest_Plan_order))
    (l_Plan_order : K.lookup f_Plan_order = some ⟨oc_Plan_order, od_Plan_order, .func (PySem.W.fnOf "order" "Plan.order" (defArgs s_Plan_order) (defBody s_Plan_order) (defScope s_Plan_order) .none kV_Plan_order dc_Plan_order pm_Plan_order an_Plan_order cd_Plan_order ct_Plan_order), sl_Plan_order⟩)
    (c_Plan_order : PySem.W.codeIn K cd_Plan_order "Plan.order" = true)
    (k_Plan_order : PySem.W.keepIn K (.ref f_Plan_order) = true)
    (at_Plan_tasks : PySem.W.findIn K (.ref C_Plan) "tasks" = some (some (.ref pp_Plan_tasks)))
    (gt_Plan_tasks : PySem.W.specialIn K (.ref pp_Plan_tasks) "__get__" = some (some (.builtin "property.__get__")))
    (tk_Plan_tasks : PySem.W.takesIn K (.ref pp_Plan_tasks) = some true)
    (rc_Plan_tasks : PySem.W.recIn K pp_Plan_tasks "property" = some (.ref f_Plan_tasks :: rest_Plan_tasks))
    (l_Plan_tasks : K.lookup f_Plan_tasks = some ⟨oc_Plan_tasks, od_Plan_tasks, .func (PySem.W.fnOf "tasks" "Plan.tasks" (defArgs s_Plan_tasks) (defBody s_Plan_tasks) (defScope s_Plan_tasks) .none kV_Plan_tasks dc_Plan_tasks pm_Plan_tasks an_Plan_tasks cd_Plan_tasks ct_Plan_tasks), sl_Plan_tasks⟩)
    (c_Plan_tasks : PySem.W.codeIn K cd_Plan_tasks "Plan.tasks" = true)
    (k_Plan_tasks : PySem.W.keepIn K (.ref f_Plan_tasks) = true)
    (at_Plan_workers : PySem.W.findIn K (.ref C_Plan) "workers" = some (some (.ref pp_Plan_workers)))
    (gt_Plan_workers : PySem.W.specialIn K (.ref pp_Plan_workers) "__get__" = some (some (.builtin "property.__get__")))
    (tk_Plan_workers : PySem.W.takesIn K (.ref pp_Plan_workers) = some true)
    (rc_Plan_workers : PySem.W.recIn K pp_Plan_workers "property" = some (.ref f_Plan_workers :: rest_Plan_workers))
    (l_Plan_workers : K.lookup f_Plan_workers = some ⟨oc_Plan_workers, od_Plan_workers, .func (PySem.W.fnOf "workers" "Plan.workers" (defArgs s_Plan_workers) (defBody s_Plan_workers) (defScope s_Plan_workers) .none kV_Plan_workers dc_Plan_workers pm_Plan_workers an_Plan_workers cd_Plan_workers ct_Plan_workers), sl_Plan_workers⟩)
    (c_Plan_workers : PySem.W.codeIn K cd_Plan_workers "Plan.workers" = true)
    (k_Plan_workers : PySem.W.keepIn K (.ref f_Plan_workers) = true)
    (a__law_told_plan : PySem.W.nsIn K mainGlobals "_law_told_plan" = some (some (.ref f__law_told_plan)))
    (l__law_told_plan : K.lookup f__law_told_plan = some ⟨oc__law_told_plan, od__law_told_plan, .func (PySem.W.fnOf "_law_told_plan" "_law_told_plan" (defArgs s__law_told_plan) (defBody s__law_told_plan) (defScope s__law_told_plan) .none kV__law_told_plan dc__law_told_plan pm__law_told_plan an__law_told_plan cd__law_told_plan ct__law_told_plan), sl__law_told_plan⟩)
    (c__law_told_plan : PySem.W.codeIn K cd__law_told_plan "_law_told_plan" = true)
    (k__law_told_plan : PySem.W.keepIn K (.ref f__law_told_plan) = true)
    (z_repr : PySem.W.nsIn K mainGlobals "repr" = some none)
    (no_f_NoneType_Plan : PySem.W.notFirst K C_Plan (.type "NoneType") = true)
    (no_f_bool_Plan : PySem.W.notFirst K C_Plan (.type "bool") = true)
    (no_f_int_Plan : PySem.W.notFirst K C_Plan (.type "int") = true)
    (no_f_str_Plan : PySem.W.notFirst K C_Plan (.type "str") = true)
    (no_f_list_Plan : PySem.W.notFirst K C_Plan (.type "list") = true)
    (no_f_tuple_Plan : PySem.W.notFirst K C_Plan (.type "tuple") = true)
    (no_f_dict_Plan : PySem.W.notFirst K C_Plan (.type "dict") = true)
    (no_ne_Plan : PySem.W.findIn K (.ref C_Plan) "__ne__" = some (some (.builtin "object.__ne__")))
    (no_so_Plan : PySem.W.subIn K (.ref C_Plan) (.type "object") = some true)
    (z_str : PySem.W.nsIn K mainGlobals "str" = some none)
    (a_law_k04 : PySem.W.nsIn K mainGlobals "law" = some (some (.ref f_law_k04)))
    (l_law_k04 : K.lookup f_law_k04 = some ⟨oc_law_k04, od_law_k04, .func (PySem.W.fnOf "law" "law" (defArgs s_law_k04) (defBody s_law_k04) (defScope s_law_k04) .none kV_law_k04 dc_law_k04 pm_law_k04 an_law_k04 cd_law_k04 ct_law_k04), sl_law_k04⟩)
    (c_law_k04 : PySem.W.codeIn K cd_law_k04 "law" = true)
    (k_law_k04 : PySem.W.keepIn K (.ref f_law_k04) = true)
    : ∃ fd : FuncData, (∀ (s : Shared) (v : Value), BindsTo s fd ⟨[v], []⟩ [("_law_script", v)]) ∧ ∀ base : Heap, K.In base → base.Ns mainGlobals mg → (∃ mm, base.Ns sysModules mm) → GOk l.prog w K mg base CX0 8 fa fd ["_law_script"] (spLawD K) := by
  have e := hfa.symm.trans (PySem.W.mg_of KX G a_law_k04)
  cases e
  have c_Plan : Cls K C_Plan := ⟨pg_Plan, hd_Plan, po_Plan, sa_Plan⟩
  have cg : ClG K := ⟨cgsp, cgtk⟩
  have is_Plan : IsC K C_Plan := isc_mk ⟨c_Plan, ic_Plan, cgsp, cgtk, im_Plan, kt_Plan_Plan⟩ kt_NoneType_Plan kt_bool_Plan kt_int_Plan kt_str_Plan kt_list_Plan kt_tuple_Plan kt_dict_Plan
  have gc_Plan := PySem.W.mg_of KX G aC_Plan
  have m_isinstance := PySem.W.mg_none_of KX G z_isinstance
  have F_Plan___eq___any := fun_mk (st := s_Plan___eq___any) l_Plan___eq___any c_Plan___eq___any k_Plan___eq___any
  have bd_Plan___eq___any := F_Plan___eq___any.binds (ps := ["self", "other"]) fun _ _ _ _ _ _ us hl => match us, hl with | [_, _], _ => rfl
  have m_list := PySem.W.mg_none_of KX G z_list
  have F_all_ahead := fun_mk (st := s_all_ahead) l_all_ahead c_all_ahead k_all_ahead
  have bd_all_ahead := F_all_ahead.binds (ps := ["tasks", "number"]) fun _ _ _ _ _ _ us hl => match us, hl with | [_, _], _ => rfl
  have m_bool := PySem.W.mg_none_of KX G z_bool
  have m_int := PySem.W.mg_none_of KX G z_int
  have F_is_whole_number := fun_mk (st := s_is_whole_number) l_is_whole_number c_is_whole_number k_is_whole_number
  have bd_is_whole_number := F_is_whole_number.binds (ps := ["value"]) fun _ _ _ _ _ _ us hl => match us, hl with | [_], _ => rfl
  have F_is_number := fun_mk (st := s_is_number) l_is_number c_is_number k_is_number
  have bd_is_number := F_is_number.binds (ps := ["value", "many"]) fun _ _ _ _ _ _ us hl => match us, hl with | [_, _], _ => rfl
  have m_zip := PySem.W.mg_none_of KX G z_zip
  have m_all := PySem.W.mg_none_of KX G z_all
  have m_tuple := PySem.W.mg_none_of KX G z_tuple
  have F_is_ascending := fun_mk (st := s_is_ascending) l_is_ascending c_is_ascending k_is_ascending
  have bd_is_ascending := F_is_ascending.binds (ps := ["value", "many"]) fun _ _ _ _ _ _ us hl => match us, hl with | [_, _], _ => rfl
  have F_is_below := fun_mk (st := s_is_below) l_is_below c_is_below k_is_below
  have bd_is_below := F_is_below.binds (ps := ["one", "other"]) fun _ _ _ _ _ _ us hl => match us, hl with | [_, _], _ => rfl
  have m_abs := PySem.W.mg_none_of KX G z_abs
  have F_common_divisor := fun_mk (st := s_common_divisor) l_common_divisor c_common_divisor k_common_divisor
  have bd_common_divisor := F_common_divisor.binds (ps := ["one", "other"]) fun _ _ _ _ _ _ us hl => match us, hl with | [_, _], _ => rfl
  have m_len := PySem.W.mg_none_of KX G z_len
  have F_is_fraction := fun_mk (st := s_is_fraction) l_is_fraction c_is_fraction k_is_fraction
  have bd_is_fraction := F_is_fraction.binds (ps := ["value"]) fun _ _ _ _ _ _ us hl => match us, hl with | [_], _ => rfl
  have F_wrong_word := fun_mk (st := s_wrong_word) l_wrong_word c_wrong_word k_wrong_word
  have bd_wrong_word := F_wrong_word.binds (ps := ["task", "number", "many"]) fun _ _ _ _ _ _ us hl => match us, hl with | [_, _, _], _ => rfl
  have m_range := PySem.W.mg_none_of KX G z_range
  have m_any := PySem.W.mg_none_of KX G z_any
  have ec_BadPlan := erc_of ee_BadPlan
  have E_BadPlan : Er2 K mg "BadPlan" "number" "word" C_BadPlan := er2_mk (n := "number") (n2 := "word") (st := sI_BadPlan) KX G PySem.F.store_ValueError PySem.F.excBase_ValueError ec_BadPlan ⟨rfl, rfl, rfl, by decide +kernel, rfl, by decide +kernel, by decide +kernel⟩ rfl rfl rfl (by decide) (by decide) rfl (fun _ _ _ _ _ _ us hl => match us, hl with | [_, _, _], _ => rfl) aC_BadPlan tt_BadPlan no_BadPlan_number no_BadPlan_word iC_BadPlan tyI_BadPlan lI_BadPlan cdI_BadPlan kpI_BadPlan
  have b_BadPlan := ec_BadPlan.sub
  have m_enumerate := PySem.W.mg_none_of KX G z_enumerate
  have g_MAX_TASKS := PySem.W.mg_of KX G gg_MAX_TASKS
  have F_check_tasks := fun_mk (st := s_check_tasks) l_check_tasks c_check_tasks k_check_tasks
  have bd_check_tasks := F_check_tasks.binds (ps := ["tasks"]) fun _ _ _ _ _ _ us hl => match us, hl with | [_], _ => rfl
  have m_sorted := PySem.W.mg_none_of KX G z_sorted
  have F_check_order := fun_mk (st := s_check_order) l_check_order c_check_order k_check_order
  have bd_check_order := F_check_order.binds (ps := ["order", "many"]) fun _ _ _ _ _ _ us hl => match us, hl with | [_, _], _ => rfl
  have g_MAX_WORKERS := PySem.W.mg_of KX G gg_MAX_WORKERS
  have F_check_workers := fun_mk (st := s_check_workers) l_check_workers c_check_workers k_check_workers
  have bd_check_workers := F_check_workers.binds (ps := ["workers"]) fun _ _ _ _ _ _ us hl => match us, hl with | [_], _ => rfl
  have F_Plan___init__ := fun_mk (st := s_Plan___init__) l_Plan___init__ c_Plan___init__ k_Plan___init__
  have bd_Plan___init__ := F_Plan___init__.binds (ps := ["self", "tasks", "order", "workers"]) fun _ _ _ _ _ _ us hl => match us, hl with | [_, _, _, _], _ => rfl
  have F_Plan___len__ := fun_mk (st := s_Plan___len__) l_Plan___len__ c_Plan___len__ k_Plan___len__
  have bd_Plan___len__ := F_Plan___len__.binds (ps := ["self"]) fun _ _ _ _ _ _ us hl => match us, hl with | [_], _ => rfl
  have F_Plan___str__ := fun_mk (st := s_Plan___str__) l_Plan___str__ c_Plan___str__ k_Plan___str__
  have bd_Plan___str__ := F_Plan___str__.binds (ps := ["self"]) fun _ _ _ _ _ _ us hl => match us, hl with | [_], _ => rfl
  have F__law_deck := fun_mk (st := s__law_deck) l__law_deck c__law_deck k__law_deck
  have bd__law_deck := F__law_deck.binds (ps := ["_law_script"]) fun _ _ _ _ _ _ us hl => match us, hl with | [_], _ => rfl
  have F__law_is_integer := fun_mk (st := s__law_is_integer) l__law_is_integer c__law_is_integer k__law_is_integer
  have bd__law_is_integer := F__law_is_integer.binds (ps := ["_law_value"]) fun _ _ _ _ _ _ us hl => match us, hl with | [_], _ => rfl
  have F__law_is_number := fun_mk (st := s__law_is_number) l__law_is_number c__law_is_number k__law_is_number
  have bd__law_is_number := F__law_is_number.binds (ps := ["_law_value", "_law_many"]) fun _ _ _ _ _ _ us hl => match us, hl with | [_, _], _ => rfl
  have F__law_due_k04 := fun_mk (st := s__law_due_k04) l__law_due_k04 c__law_due_k04 k__law_due_k04
  have bd__law_due_k04 := F__law_due_k04.binds (ps := ["_law_tasks_here", "_law_number"]) fun _ _ _ _ _ _ us hl => match us, hl with | [_, _], _ => rfl
  have ec_NoTask := erc_of ee_NoTask
  have E_NoTask : Er1 K mg "NoTask" "number" C_NoTask := er1_mk (n := "number") (st := sI_NoTask) KX G PySem.F.store_LookupError PySem.F.excBase_LookupError ec_NoTask ⟨rfl, rfl, rfl, by decide +kernel, rfl, by decide +kernel, by decide +kernel⟩ rfl rfl (by decide) rfl (fun _ _ _ _ _ _ us hl => match us, hl with | [_, _], _ => rfl) aC_NoTask tt_NoTask no_NoTask_number iC_NoTask tyI_NoTask lI_NoTask cdI_NoTask kpI_NoTask
  have b_NoTask := ec_NoTask.sub
  have F_Plan_check_number := fun_mk (st := s_Plan_check_number) l_Plan_check_number c_Plan_check_number k_Plan_check_number
  have bd_Plan_check_number := F_Plan_check_number.binds (ps := ["self", "number"]) fun _ _ _ _ _ _ us hl => match us, hl with | [_, _], _ => rfl
  have F_Plan___getitem__ := fun_mk (st := s_Plan___getitem__) l_Plan___getitem__ c_Plan___getitem__ k_Plan___getitem__
  have bd_Plan___getitem__ := F_Plan___getitem__.binds (ps := ["self", "at"]) fun _ _ _ _ _ _ us hl => match us, hl with | [_, _], _ => rfl
  have m_ValueError := PySem.W.mg_none_of KX G z_ValueError
  have m_LookupError := PySem.W.mg_none_of KX G z_LookupError
  have xf_NoTask : XfC K C_NoTask := ⟨ec_NoTask.ga, ec_NoTask.gg, ec_NoTask.sub, ec_NoTask.hd⟩
  have F__law_told_none := fun_mk (st := s__law_told_none) l__law_told_none c__law_told_none k__law_told_none
  have bd__law_told_none := F__law_told_none.binds (ps := ["_law_error"]) fun _ _ _ _ _ _ us hl => match us, hl with | [_], _ => rfl
  have gc_NoTask := PySem.W.mg_of KX G aC_NoTask
  have F__law_got := fun_mk (st := s__law_got) l__law_got c__law_got k__law_got
  have bd__law_got := F__law_got.binds (ps := ["_law_plan", "_law_number"]) fun _ _ _ _ _ _ us hl => match us, hl with | [_, _], _ => rfl
  have F__law_take := fun_mk (st := s__law_take) l__law_take c__law_take k__law_take
  have bd__law_take := F__law_take.binds (ps := ["_law_deck_here", "_law_limit"]) fun _ _ _ _ _ _ us hl => match us, hl with | [_, _], _ => rfl
  have F__law_one := fun_mk (st := s__law_one) l__law_one c__law_one k__law_one
  have bd__law_one := F__law_one.binds (ps := ["_law_deck_here", "_law_items"]) fun _ _ _ _ _ _ us hl => match us, hl with | [_, _], _ => rfl
  have F__law_odd := fun_mk (st := s__law_odd) l__law_odd c__law_odd k__law_odd
  have bd__law_odd := F__law_odd.binds (ps := ["_law_deck_here"]) fun _ _ _ _ _ _ us hl => match us, hl with | [_], _ => rfl
  have F__law_odd_number := fun_mk (st := s__law_odd_number) l__law_odd_number c__law_odd_number k__law_odd_number
  have bd__law_odd_number := F__law_odd_number.binds (ps := ["_law_deck_here", "_law_many"]) fun _ _ _ _ _ _ us hl => match us, hl with | [_, _], _ => rfl
  have F__law_frac := fun_mk (st := s__law_frac) l__law_frac c__law_frac k__law_frac
  have bd__law_frac := F__law_frac.binds (ps := ["_law_above", "_law_below"]) fun _ _ _ _ _ _ us hl => match us, hl with | [_, _], _ => rfl
  have F__law_mixed := fun_mk (st := s__law_mixed) l__law_mixed c__law_mixed k__law_mixed
  have bd__law_mixed := F__law_mixed.binds (ps := ["_law_deck_here", "_law_items"]) fun _ _ _ _ _ _ us hl => match us, hl with | [_, _], _ => rfl
  have F__law_plus := fun_mk (st := s__law_plus) l__law_plus c__law_plus k__law_plus
  have bd__law_plus := F__law_plus.binds (ps := ["_law_one_here", "_law_other"]) fun _ _ _ _ _ _ us hl => match us, hl with | [_, _], _ => rfl
  have F__law_span := fun_mk (st := s__law_span) l__law_span c__law_span k__law_span
  have bd__law_span := F__law_span.binds (ps := ["_law_deck_here"]) fun _ _ _ _ _ _ us hl => match us, hl with | [_], _ => rfl
  have F__law_tasks := fun_mk (st := s__law_tasks) l__law_tasks c__law_tasks k__law_tasks
  have bd__law_tasks := F__law_tasks.binds (ps := ["_law_deck_here", "_law_many"]) fun _ _ _ _ _ _ us hl => match us, hl with | [_, _], _ => rfl
  have F__law_parts := fun_mk (st := s__law_parts) l__law_parts c__law_parts k__law_parts
  have bd__law_parts := F__law_parts.binds (ps := ["_law_deck_here"]) fun _ _ _ _ _ _ us hl => match us, hl with | [_], _ => rfl
  have F__law_with := fun_mk (st := s__law_with) l__law_with c__law_with k__law_with
  have bd__law_with := F__law_with.binds (ps := ["_law_tasks_here", "_law_number", "_law_task"]) fun _ _ _ _ _ _ us hl => match us, hl with | [_, _, _], _ => rfl
  have F__law_others := fun_mk (st := s__law_others) l__law_others c__law_others k__law_others
  have bd__law_others := F__law_others.binds (ps := ["_law_deck_here", "_law_tasks_here", "_law_order", "_law_workers"]) fun _ _ _ _ _ _ us hl => match us, hl with | [_, _, _, _], _ => rfl
  have F_Plan_order := fun_mk (st := s_Plan_order) l_Plan_order c_Plan_order k_Plan_order
  have bd_Plan_order := F_Plan_order.binds (ps := ["self"]) fun _ _ _ _ _ _ us hl => match us, hl with | [_], _ => rfl
  have F_Plan_tasks := fun_mk (st := s_Plan_tasks) l_Plan_tasks c_Plan_tasks k_Plan_tasks
  have bd_Plan_tasks := F_Plan_tasks.binds (ps := ["self"]) fun _ _ _ _ _ _ us hl => match us, hl with | [_], _ => rfl
  have F_Plan_workers := fun_mk (st := s_Plan_workers) l_Plan_workers c_Plan_workers k_Plan_workers
  have bd_Plan_workers := F_Plan_workers.binds (ps := ["self"]) fun _ _ _ _ _ _ us hl => match us, hl with | [_], _ => rfl
  have F__law_told_plan := fun_mk (st := s__law_told_plan) l__law_told_plan c__law_told_plan k__law_told_plan
  have bd__law_told_plan := F__law_told_plan.binds (ps := ["_law_plan"]) fun _ _ _ _ _ _ us hl => match us, hl with | [_], _ => rfl
  have m_repr := PySem.W.mg_none_of KX G z_repr
  have nf_Plan : NfC K C_Plan := nfc_mk no_f_NoneType_Plan no_f_bool_Plan no_f_int_Plan no_f_str_Plan no_f_list_Plan no_f_tuple_Plan no_f_dict_Plan
  have m_str := PySem.W.mg_none_of KX G z_str
  have F_law_k04 := fun_mk (st := s_law_k04) l_law_k04 c_law_k04 k_law_k04
  refine ⟨PySem.W.fnOf "law" "law" (defArgs s_law_k04) (defBody s_law_k04) (defScope s_law_k04) .none kV_law_k04 dc_law_k04 pm_law_k04 an_law_k04 cd_law_k04 ct_law_k04, fun s v => .of_eq rfl, fun base _ _ sm => ?_⟩
  have T_Plan___eq___any : MtT l.prog w K mg base CX0 1 C_Plan "__eq__" 1 (fEqA C_Plan) := ⟨f_Plan___eq___any, _, _, ⟨at_Plan___eq___any, fn_Plan___eq___any, k_Plan___eq___any⟩, ok_Plan___eq___any (P := l.prog) (w := w) (base := base) (C_Plan := C_Plan) F_Plan___eq___any c_Plan na_Plan_held_workers na_Plan_held_order na_Plan_held_tasks is_Plan gc_Plan m_isinstance, bd_Plan___eq___any⟩
  have T_all_ahead : FnT l.prog w K mg base CX0 1 "all_ahead" f_all_ahead _ _ _ := ⟨ok_all_ahead (P := l.prog) (w := w) (base := base) F_all_ahead m_list, PySem.W.mg_of KX G a_all_ahead, k_all_ahead, bd_all_ahead⟩
  have T_is_whole_number : FnT l.prog w K mg base CX0 1 "is_whole_number" f_is_whole_number _ _ _ := ⟨ok_is_whole_number (P := l.prog) (w := w) (base := base) F_is_whole_number m_isinstance m_bool m_int, PySem.W.mg_of KX G a_is_whole_number, k_is_whole_number, bd_is_whole_number⟩
  have T_is_number : FnT l.prog w K mg base CX0 2 "is_number" f_is_number _ _ _ := ⟨ok_is_number (P := l.prog) (w := w) (base := base) F_is_number T_is_whole_number, PySem.W.mg_of KX G a_is_number, k_is_number, bd_is_number⟩
  have T_is_ascending : FnT l.prog w K mg base CX0 3 "is_ascending" f_is_ascending _ _ _ := ⟨ok_is_ascending (P := l.prog) (w := w) (base := base) F_is_ascending m_zip m_all T_is_number m_isinstance m_tuple, PySem.W.mg_of KX G a_is_ascending, k_is_ascending, bd_is_ascending⟩
  have T_is_below : FnT l.prog w K mg base CX0 1 "is_below" f_is_below _ _ _ := ⟨ok_is_below (P := l.prog) (w := w) (base := base) F_is_below, PySem.W.mg_of KX G a_is_below, k_is_below, bd_is_below⟩
  have T_common_divisor : FnT l.prog w K mg base CX0 1 "common_divisor" f_common_divisor _ _ _ := ⟨ok_common_divisor (P := l.prog) (w := w) (base := base) F_common_divisor m_abs, PySem.W.mg_of KX G a_common_divisor, k_common_divisor, bd_common_divisor⟩
  have T_is_fraction : FnT l.prog w K mg base CX0 2 "is_fraction" f_is_fraction _ _ _ := ⟨ok_is_fraction (P := l.prog) (w := w) (base := base) F_is_fraction T_common_divisor T_is_whole_number m_len m_isinstance m_tuple, PySem.W.mg_of KX G a_is_fraction, k_is_fraction, bd_is_fraction⟩
  have T_wrong_word : FnT l.prog w K mg base CX0 4 "wrong_word" f_wrong_word _ _ _ := ⟨ok_wrong_word (P := l.prog) (w := w) (base := base) F_wrong_word T_is_below T_is_fraction T_is_ascending m_len m_isinstance m_tuple, PySem.W.mg_of KX G a_wrong_word, k_wrong_word, bd_wrong_word⟩
  have T_check_tasks : FnT l.prog w K mg base (L2N.CX l.prog w) 5 "check_tasks" f_check_tasks _ _ _ := ⟨ok_check_tasks (P := l.prog) (w := w) (base := base) (C_BadPlan := C_BadPlan) F_check_tasks m_len m_range T_all_ahead m_any E_BadPlan b_BadPlan t_BadPlan m_enumerate T_wrong_word g_MAX_TASKS m_isinstance m_tuple, PySem.W.mg_of KX G a_check_tasks, k_check_tasks, bd_check_tasks⟩
  have T_check_order : FnT l.prog w K mg base (L2N.CX l.prog w) 3 "check_order" f_check_order _ _ _ := ⟨ok_check_order (P := l.prog) (w := w) (base := base) (C_BadPlan := C_BadPlan) F_check_order m_sorted m_list m_range E_BadPlan b_BadPlan t_BadPlan T_is_number m_all m_isinstance m_tuple, PySem.W.mg_of KX G a_check_order, k_check_order, bd_check_order⟩
  have T_check_workers : FnT l.prog w K mg base (L2N.CX l.prog w) 2 "check_workers" f_check_workers _ _ _ := ⟨ok_check_workers (P := l.prog) (w := w) (base := base) (C_BadPlan := C_BadPlan) F_check_workers g_MAX_WORKERS T_is_whole_number E_BadPlan b_BadPlan t_BadPlan, PySem.W.mg_of KX G a_check_workers, k_check_workers, bd_check_workers⟩
  have T_Plan : PlanT l.prog w K mg base 6 C_Plan C_BadPlan := ⟨f_Plan___init__, _, ⟨mk_Plan, at_Plan___init__, fn_Plan___init__, kpC_Plan⟩, ok_Plan___init__ (P := l.prog) (w := w) (base := base) F_Plan___init__ c_Plan na_Plan_held_tasks na_Plan_held_order na_Plan_held_workers m_len T_check_tasks T_check_order T_check_workers, PySem.W.mg_of KX G aC_Plan, bd_Plan___init__⟩
  have T_Plan___len__ : MtT l.prog w K mg base CX0 1 C_Plan "__len__" 0 (fLenP C_Plan) := ⟨f_Plan___len__, _, _, ⟨at_Plan___len__, fn_Plan___len__, k_Plan___len__⟩, ok_Plan___len__ (P := l.prog) (w := w) (base := base) (C_Plan := C_Plan) F_Plan___len__ c_Plan na_Plan_held_tasks m_len, bd_Plan___len__⟩
  have T_Plan___str__ : MtT l.prog w K mg base CX0 1 C_Plan "__str__" 0 (fStrP C_Plan) := ⟨f_Plan___str__, _, _, ⟨at_Plan___str__, fn_Plan___str__, k_Plan___str__⟩, ok_Plan___str__ (P := l.prog) (w := w) (base := base) (C_Plan := C_Plan) F_Plan___str__ c_Plan na_Plan_held_workers na_Plan_held_tasks m_len, bd_Plan___str__⟩
  have T__law_deck : FnT l.prog w K mg base CX0 1 "_law_deck" f__law_deck _ _ _ := ⟨ok__law_deck (P := l.prog) (w := w) (base := base) F__law_deck m_len m_abs m_int, PySem.W.mg_of KX G a__law_deck, k__law_deck, bd__law_deck⟩
  have T__law_is_integer : FnT l.prog w K mg base CX0 1 "_law_is_integer" f__law_is_integer _ _ _ := ⟨ok__law_is_integer (P := l.prog) (w := w) (base := base) F__law_is_integer m_isinstance m_bool m_int, PySem.W.mg_of KX G a__law_is_integer, k__law_is_integer, bd__law_is_integer⟩
  have T__law_is_number : FnT l.prog w K mg base CX0 2 "_law_is_number" f__law_is_number _ _ _ := ⟨ok__law_is_number (P := l.prog) (w := w) (base := base) F__law_is_number T__law_is_integer, PySem.W.mg_of KX G a__law_is_number, k__law_is_number, bd__law_is_number⟩
  have T__law_due_k04 : FnT l.prog w K mg base CX0 3 "_law_due" f__law_due_k04 _ _ _ := ⟨ok__law_due_k04 (P := l.prog) (w := w) (base := base) F__law_due_k04 T__law_is_number m_len, PySem.W.mg_of KX G a__law_due_k04, k__law_due_k04, bd__law_due_k04⟩
  have T_Plan_check_number : MtT l.prog w K mg base (L2N.CX l.prog w) 3 C_Plan "check_number" 1 (fChk C_Plan C_NoTask) := ⟨f_Plan_check_number, _, _, ⟨at_Plan_check_number, fn_Plan_check_number, k_Plan_check_number⟩, ok_Plan_check_number (P := l.prog) (w := w) (base := base) (C_NoTask := C_NoTask) (C_Plan := C_Plan) F_Plan_check_number T_is_number c_Plan na_Plan_held_tasks m_len E_NoTask b_NoTask t_NoTask, bd_Plan_check_number⟩
  have TS_Plan___getitem__ : SpT l.prog w K mg base (L2N.CX l.prog w) 4 C_Plan "__getitem__" 1 (fGetI C_Plan C_NoTask) := ⟨f_Plan___getitem__, _, _, ⟨at_Plan___getitem__, fn_Plan___getitem__, k_Plan___getitem__⟩, fi_Plan___getitem__, ok_Plan___getitem__ (P := l.prog) (w := w) (base := base) (C_NoTask := C_NoTask) (C_Plan := C_Plan) F_Plan___getitem__ c_Plan na_Plan_held_tasks T_Plan_check_number, bd_Plan___getitem__⟩
  have T_Plan___getitem__ : MtT l.prog w K mg base (L2N.CX l.prog w) 4 C_Plan "__getitem__" 1 (fGetI C_Plan C_NoTask) := ⟨f_Plan___getitem__, _, _, ⟨at_Plan___getitem__, fn_Plan___getitem__, k_Plan___getitem__⟩, ok_Plan___getitem__ (P := l.prog) (w := w) (base := base) (C_NoTask := C_NoTask) (C_Plan := C_Plan) F_Plan___getitem__ c_Plan na_Plan_held_tasks T_Plan_check_number, bd_Plan___getitem__⟩
  have T__law_told_none : FnTE l.prog w K mg base 1 "_law_told_none" C_NoTask eNone := ⟨f__law_told_none, _, _, ok__law_told_none (P := l.prog) (w := w) (base := base) (C_NoTask := C_NoTask) F__law_told_none m_ValueError kt_NoTask_ValueError ec_NoTask cg m_isinstance m_LookupError kt_NoTask_LookupError xf_NoTask no_NoTask_number, PySem.W.mg_of KX G a__law_told_none, k__law_told_none, bd__law_told_none⟩
  have T__law_got : FnT l.prog w K mg base CX0 6 "_law_got" f__law_got _ _ _ := ⟨ok__law_got (P := l.prog) (w := w) (base := base) (C_Plan := C_Plan) (C_NoTask := C_NoTask) F__law_got TS_Plan___getitem__ gc_NoTask x_NoTask_NoTask T__law_told_none, PySem.W.mg_of KX G a__law_got, k__law_got, bd__law_got⟩
  have T__law_take : FnT l.prog w K mg base CX0 1 "_law_take" f__law_take _ _ _ := ⟨ok__law_take (P := l.prog) (w := w) (base := base) F__law_take m_int, PySem.W.mg_of KX G a__law_take, k__law_take, bd__law_take⟩
  have T__law_one : FnT l.prog w K mg base CX0 2 "_law_one" f__law_one _ _ _ := ⟨ok__law_one (P := l.prog) (w := w) (base := base) F__law_one T__law_take m_len, PySem.W.mg_of KX G a__law_one, k__law_one, bd__law_one⟩
  have T__law_odd : FnT l.prog w K mg base CX0 3 "_law_odd" f__law_odd _ _ _ := ⟨ok__law_odd (P := l.prog) (w := w) (base := base) F__law_odd T__law_one, PySem.W.mg_of KX G a__law_odd, k__law_odd, bd__law_odd⟩
  have T__law_odd_number : FnT l.prog w K mg base CX0 3 "_law_odd_number" f__law_odd_number _ _ _ := ⟨ok__law_odd_number (P := l.prog) (w := w) (base := base) F__law_odd_number T__law_one T__law_take, PySem.W.mg_of KX G a__law_odd_number, k__law_odd_number, bd__law_odd_number⟩
  have T__law_frac : FnT l.prog w K mg base CX0 1 "_law_frac" f__law_frac _ _ _ := ⟨ok__law_frac (P := l.prog) (w := w) (base := base) F__law_frac m_int m_abs, PySem.W.mg_of KX G a__law_frac, k__law_frac, bd__law_frac⟩
  have T__law_mixed : FnT l.prog w K mg base CX0 2 "_law_mixed" f__law_mixed _ _ _ := ⟨ok__law_mixed (P := l.prog) (w := w) (base := base) F__law_mixed T__law_take m_len m_list, PySem.W.mg_of KX G a__law_mixed, k__law_mixed, bd__law_mixed⟩
  have T__law_plus : FnT l.prog w K mg base CX0 2 "_law_plus" f__law_plus _ _ _ := ⟨ok__law_plus (P := l.prog) (w := w) (base := base) F__law_plus T__law_frac, PySem.W.mg_of KX G a__law_plus, k__law_plus, bd__law_plus⟩
  have T__law_span : FnT l.prog w K mg base CX0 3 "_law_span" f__law_span _ _ _ := ⟨ok__law_span (P := l.prog) (w := w) (base := base) F__law_span T__law_plus T__law_one T__law_take T__law_frac, PySem.W.mg_of KX G a__law_span, k__law_span, bd__law_span⟩
  have T__law_tasks : FnT l.prog w K mg base CX0 4 "_law_tasks" f__law_tasks _ _ _ := ⟨ok__law_tasks (P := l.prog) (w := w) (base := base) F__law_tasks m_tuple m_range T__law_span T__law_take m_sorted T__law_mixed m_list, PySem.W.mg_of KX G a__law_tasks, k__law_tasks, bd__law_tasks⟩
  have T__law_parts : FnT l.prog w K mg base CX0 5 "_law_parts" f__law_parts _ _ _ := ⟨ok__law_parts (P := l.prog) (w := w) (base := base) F__law_parts T__law_take T__law_mixed m_list m_range m_tuple T__law_tasks T__law_one, PySem.W.mg_of KX G a__law_parts, k__law_parts, bd__law_parts⟩
  have T__law_with : FnT l.prog w K mg base CX0 1 "_law_with" f__law_with _ _ _ := ⟨ok__law_with (P := l.prog) (w := w) (base := base) F__law_with, PySem.W.mg_of KX G a__law_with, k__law_with, bd__law_with⟩
  have T__law_others : FnT l.prog w K mg base CX0 6 "_law_others" f__law_others _ _ _ := ⟨ok__law_others (P := l.prog) (w := w) (base := base) F__law_others T__law_parts m_len T__law_with T__law_frac T__law_plus m_int T__law_take, PySem.W.mg_of KX G a__law_others, k__law_others, bd__law_others⟩
  have T_Plan_order : PrT l.prog w K mg base 1 C_Plan "order" (fGet C_Plan "held_order") := ⟨pp_Plan_order, f_Plan_order, _, ⟨at_Plan_order, gt_Plan_order, tk_Plan_order, rest_Plan_order, rc_Plan_order⟩, ok_Plan_order (P := l.prog) (w := w) (base := base) (C_Plan := C_Plan) F_Plan_order c_Plan na_Plan_held_order, bd_Plan_order⟩
  have T_Plan_tasks : PrT l.prog w K mg base 1 C_Plan "tasks" (fGet C_Plan "held_tasks") := ⟨pp_Plan_tasks, f_Plan_tasks, _, ⟨at_Plan_tasks, gt_Plan_tasks, tk_Plan_tasks, rest_Plan_tasks, rc_Plan_tasks⟩, ok_Plan_tasks (P := l.prog) (w := w) (base := base) (C_Plan := C_Plan) F_Plan_tasks c_Plan na_Plan_held_tasks, bd_Plan_tasks⟩
  have T_Plan_workers : PrT l.prog w K mg base 1 C_Plan "workers" (fGet C_Plan "held_workers") := ⟨pp_Plan_workers, f_Plan_workers, _, ⟨at_Plan_workers, gt_Plan_workers, tk_Plan_workers, rest_Plan_workers, rc_Plan_workers⟩, ok_Plan_workers (P := l.prog) (w := w) (base := base) (C_Plan := C_Plan) F_Plan_workers c_Plan na_Plan_held_workers, bd_Plan_workers⟩
  have T__law_told_plan : FnT l.prog w K mg base CX0 3 "_law_told_plan" f__law_told_plan _ _ _ := ⟨ok__law_told_plan (P := l.prog) (w := w) (base := base) (C_Plan := C_Plan) F__law_told_plan c_Plan T_Plan_workers T_Plan_order T_Plan_tasks, PySem.W.mg_of KX G a__law_told_plan, k__law_told_plan, bd__law_told_plan⟩
  exact ok_law_k04 (P := l.prog) (w := w) (base := base) (C_Plan := C_Plan) (C_BadPlan := C_BadPlan) (C_NoTask := C_NoTask) F_law_k04 m_range T__law_told_plan m_repr T__law_odd T_Plan___eq___any is_Plan nf_Plan no_ne_Plan no_so_Plan T__law_others m_len T_Plan T_Plan___str__ m_str T_Plan___len__ T__law_got T__law_due_k04 m_list T__law_odd_number T__law_parts T__law_deck sm
end Wk04
open PySem PySem.W PyProof.Rows
set_option maxRecDepth 100000 in
set_option maxHeartbeats 0 in
theorem PySem.Challenge.cw_lesslater_k04_plans_asked_holds : PySem.Challenge.rw_lesslater_k04_plans_asked.Holds := by
  w_on; o_law; k_head; (case hw => w_witness2)
  k_fill
  refine LL.walk_G (l := PySem.Challenge.rw_lesslater_k04_plans_asked) (n := 63) (k := 8) (x := "_law_script") (sp := fun w => DL.spLawD _) rfl (by decide) rfl (by decide +kernel) ⟨rfl, by decide, by decide⟩ (fun w h Y => PySem.W.kIn_of Y) ?F (fun _ _ a ns hl _ _ hS => ⟨a, ns, rfl, hS, hl, fun _ => rfl⟩)
  case F =>
    intro w mg fa h KX G hmg
    refine' Wk04.all_mk KX G hmg ?aC_Plan ?pg_Plan ?hd_Plan ?po_Plan ?sa_Plan ?na_Plan_held_workers ?na_Plan_held_order ?na_Plan_held_tasks ?cgsp ?cgtk ?ic_Plan ?im_Plan ?kt_Plan_Plan ?kt_NoneType_Plan ?kt_bool_Plan ?kt_int_Plan ?kt_str_Plan ?kt_list_Plan ?kt_tuple_Plan ?kt_dict_Plan ?z_isinstance ?at_Plan___eq___any ?fn_Plan___eq___any ?l_Plan___eq___any ?c_Plan___eq___any ?k_Plan___eq___any ?z_list ?a_all_ahead ?l_all_ahead ?c_all_ahead ?k_all_ahead ?z_bool ?z_int ?a_is_whole_number ?l_is_whole_number ?c_is_whole_number ?k_is_whole_number ?a_is_number ?l_is_number ?c_is_number ?k_is_number ?z_zip ?z_all ?z_tuple ?a_is_ascending ?l_is_ascending ?c_is_ascending ?k_is_ascending ?a_is_below ?l_is_below ?c_is_below ?k_is_below ?z_abs ?a_common_divisor ?l_common_divisor ?c_common_divisor ?k_common_divisor ?z_len ?a_is_fraction ?l_is_fraction ?c_is_fraction ?k_is_fraction ?a_wrong_word ?l_wrong_word ?c_wrong_word ?k_wrong_word ?aC_BadPlan ?z_range ?z_any ?ee_BadPlan ?tt_BadPlan ?no_BadPlan_number ?no_BadPlan_word ?iC_BadPlan ?tyI_BadPlan ?lI_BadPlan ?cdI_BadPlan ?kpI_BadPlan ?t_BadPlan ?z_enumerate ?gg_MAX_TASKS ?a_check_tasks ?l_check_tasks ?c_check_tasks ?k_check_tasks ?z_sorted ?a_check_order ?l_check_order ?c_check_order ?k_check_order ?gg_MAX_WORKERS ?a_check_workers ?l_check_workers ?c_check_workers ?k_check_workers ?at_Plan___init__ ?fn_Plan___init__ ?l_Plan___init__ ?c_Plan___init__ ?k_Plan___init__ ?mk_Plan ?kpC_Plan ?at_Plan___len__ ?fn_Plan___len__ ?l_Plan___len__ ?c_Plan___len__ ?k_Plan___len__ ?at_Plan___str__ ?fn_Plan___str__ ?l_Plan___str__ ?c_Plan___str__ ?k_Plan___str__ ?a__law_deck ?l__law_deck ?c__law_deck ?k__law_deck ?a__law_is_integer ?l__law_is_integer ?c__law_is_integer ?k__law_is_integer ?a__law_is_number ?l__law_is_number ?c__law_is_number ?k__law_is_number ?a__law_due_k04 ?l__law_due_k04 ?c__law_due_k04 ?k__law_due_k04 ?aC_NoTask ?ee_NoTask ?tt_NoTask ?no_NoTask_number ?iC_NoTask ?tyI_NoTask ?lI_NoTask ?cdI_NoTask ?kpI_NoTask ?t_NoTask ?at_Plan_check_number ?fn_Plan_check_number ?l_Plan_check_number ?c_Plan_check_number ?k_Plan_check_number ?at_Plan___getitem__ ?fn_Plan___getitem__ ?l_Plan___getitem__ ?c_Plan___getitem__ ?k_Plan___getitem__ ?fi_Plan___getitem__ ?z_ValueError ?kt_NoTask_ValueError ?z_LookupError ?kt_NoTask_LookupError ?a__law_told_none ?l__law_told_none ?c__law_told_none ?k__law_told_none ?x_NoTask_NoTask ?a__law_got ?l__law_got ?c__law_got ?k__law_got ?a__law_take ?l__law_take ?c__law_take ?k__law_take ?a__law_one ?l__law_one ?c__law_one ?k__law_one ?a__law_odd ?l__law_odd ?c__law_odd ?k__law_odd ?a__law_odd_number ?l__law_odd_number ?c__law_odd_number ?k__law_odd_number ?a__law_frac ?l__law_frac ?c__law_frac ?k__law_frac ?a__law_mixed ?l__law_mixed ?c__law_mixed ?k__law_mixed ?a__law_plus ?l__law_plus ?c__law_plus ?k__law_plus ?a__law_span ?l__law_span ?c__law_span ?k__law_span ?a__law_tasks ?l__law_tasks ?c__law_tasks ?k__law_tasks ?a__law_parts ?l__law_parts ?c__law_parts ?k__law_parts ?a__law_with ?l__law_with ?c__law_with ?k__law_with ?a__law_others ?l__law_others ?c__law_others ?k__law_others ?at_Plan_order ?gt_Plan_order ?tk_Plan_order ?rc_Plan_order ?l_Plan_order ?c_Plan_order ?k_Plan_order ?at_Plan_tasks ?gt_Plan_tasks ?tk_Plan_tasks ?rc_Plan_tasks ?l_Plan_tasks ?c_Plan_tasks ?k_Plan_tasks ?at_Plan_workers ?gt_Plan_workers ?tk_Plan_workers ?rc_Plan_workers ?l_Plan_workers ?c_Plan_workers ?k_Plan_workers ?a__law_told_plan ?l__law_told_plan ?c__law_told_plan ?k__law_told_plan ?z_repr ?no_f_NoneType_Plan ?no_f_bool_Plan ?no_f_int_Plan ?no_f_str_Plan ?no_f_list_Plan ?no_f_tuple_Plan ?no_f_dict_Plan ?no_ne_Plan ?no_so_Plan ?z_str ?a_law_k04 ?l_law_k04 ?c_law_k04 ?k_law_k04
    (case aC_Plan => k_is)
    (case pg_Plan => k_is)
    (case hd_Plan => k_is)
    (case po_Plan => k_is)
    (case sa_Plan => k_is)
    (case na_Plan_held_workers => k_is)
    (case na_Plan_held_order => k_is)
    (case na_Plan_held_tasks => k_is)
    (case cgsp => k_is)
    (case cgtk => k_is)
    (case ic_Plan => k_is)
    (case im_Plan => k_is)
    (case kt_Plan_Plan => kernel_rfl)
    (case kt_NoneType_Plan => kernel_rfl)
    (case kt_bool_Plan => kernel_rfl)
    (case kt_int_Plan => kernel_rfl)
    (case kt_str_Plan => kernel_rfl)
    (case kt_list_Plan => kernel_rfl)
    (case kt_tuple_Plan => kernel_rfl)
    (case kt_dict_Plan => kernel_rfl)
    (case z_isinstance => k_is)
    (case at_Plan___eq___any => k_is)
    (case fn_Plan___eq___any => k_is)
    (case l_Plan___eq___any => k_is)
    (case c_Plan___eq___any => k_is)
    (case k_Plan___eq___any => k_is)
    (case z_list => k_is)
    (case a_all_ahead => k_is)
    (case l_all_ahead => k_is)
    (case c_all_ahead => k_is)
    (case k_all_ahead => k_is)
    (case z_bool => k_is)
    (case z_int => k_is)
    (case a_is_whole_number => k_is)
    (case l_is_whole_number => k_is)
    (case c_is_whole_number => k_is)
    (case k_is_whole_number => k_is)
    (case a_is_number => k_is)
    (case l_is_number => k_is)
    (case c_is_number => k_is)
    (case k_is_number => k_is)
    (case z_zip => k_is)
    (case z_all => k_is)
    (case z_tuple => k_is)
    (case a_is_ascending => k_is)
    (case l_is_ascending => k_is)
    (case c_is_ascending => k_is)
    (case k_is_ascending => k_is)
    (case a_is_below => k_is)
    (case l_is_below => k_is)
    (case c_is_below => k_is)
    (case k_is_below => k_is)
    (case z_abs => k_is)
    (case a_common_divisor => k_is)
    (case l_common_divisor => k_is)
    (case c_common_divisor => k_is)
    (case k_common_divisor => k_is)
    (case z_len => k_is)
    (case a_is_fraction => k_is)
    (case l_is_fraction => k_is)
    (case c_is_fraction => k_is)
    (case k_is_fraction => k_is)
    (case a_wrong_word => k_is)
    (case l_wrong_word => k_is)
    (case c_wrong_word => k_is)
    (case k_wrong_word => k_is)
    (case aC_BadPlan => k_is)
    (case z_range => k_is)
    (case z_any => k_is)
    (case ee_BadPlan => kernel_rfl)
    (case tt_BadPlan => kernel_rfl)
    (case no_BadPlan_number => k_is)
    (case no_BadPlan_word => k_is)
    (case iC_BadPlan => k_is)
    (case tyI_BadPlan => k_is)
    (case lI_BadPlan => k_is)
    (case cdI_BadPlan => k_is)
    (case kpI_BadPlan => k_is)
    (case t_BadPlan => k_is)
    (case z_enumerate => k_is)
    (case gg_MAX_TASKS => k_is)
    (case a_check_tasks => k_is)
    (case l_check_tasks => k_is)
    (case c_check_tasks => k_is)
    (case k_check_tasks => k_is)
    (case z_sorted => k_is)
    (case a_check_order => k_is)
    (case l_check_order => k_is)
    (case c_check_order => k_is)
    (case k_check_order => k_is)
    (case gg_MAX_WORKERS => k_is)
    (case a_check_workers => k_is)
    (case l_check_workers => k_is)
    (case c_check_workers => k_is)
    (case k_check_workers => k_is)
    (case at_Plan___init__ => k_is)
    (case fn_Plan___init__ => k_is)
    (case l_Plan___init__ => k_is)
    (case c_Plan___init__ => k_is)
    (case k_Plan___init__ => k_is)
    (case mk_Plan => k_is)
    (case kpC_Plan => k_is)
    (case at_Plan___len__ => k_is)
    (case fn_Plan___len__ => k_is)
    (case l_Plan___len__ => k_is)
    (case c_Plan___len__ => k_is)
    (case k_Plan___len__ => k_is)
    (case at_Plan___str__ => k_is)
    (case fn_Plan___str__ => k_is)
    (case l_Plan___str__ => k_is)
    (case c_Plan___str__ => k_is)
    (case k_Plan___str__ => k_is)
    (case a__law_deck => k_is)
    (case l__law_deck => k_is)
    (case c__law_deck => k_is)
    (case k__law_deck => k_is)
    (case a__law_is_integer => k_is)
    (case l__law_is_integer => k_is)
    (case c__law_is_integer => k_is)
    (case k__law_is_integer => k_is)
    (case a__law_is_number => k_is)
    (case l__law_is_number => k_is)
    (case c__law_is_number => k_is)
    (case k__law_is_number => k_is)
    (case a__law_due_k04 => k_is)
    (case l__law_due_k04 => k_is)
    (case c__law_due_k04 => k_is)
    (case k__law_due_k04 => k_is)
    (case aC_NoTask => k_is)
    (case ee_NoTask => kernel_rfl)
    (case tt_NoTask => kernel_rfl)
    (case no_NoTask_number => k_is)
    (case iC_NoTask => k_is)
    (case tyI_NoTask => k_is)
    (case lI_NoTask => k_is)
    (case cdI_NoTask => k_is)
    (case kpI_NoTask => k_is)
    (case t_NoTask => k_is)
    (case at_Plan_check_number => k_is)
    (case fn_Plan_check_number => k_is)
    (case l_Plan_check_number => k_is)
    (case c_Plan_check_number => k_is)
    (case k_Plan_check_number => k_is)
    (case at_Plan___getitem__ => k_is)
    (case fn_Plan___getitem__ => k_is)
    (case l_Plan___getitem__ => k_is)
    (case c_Plan___getitem__ => k_is)
    (case k_Plan___getitem__ => k_is)
    (case fi_Plan___getitem__ => k_is)
    (case z_ValueError => k_is)
    (case kt_NoTask_ValueError => kernel_rfl)
    (case z_LookupError => k_is)
    (case kt_NoTask_LookupError => kernel_rfl)
    (case a__law_told_none => k_is)
    (case l__law_told_none => k_is)
    (case c__law_told_none => k_is)
    (case k__law_told_none => k_is)
    (case x_NoTask_NoTask => kernel_rfl)
    (case a__law_got => k_is)
    (case l__law_got => k_is)
    (case c__law_got => k_is)
    (case k__law_got => k_is)
    (case a__law_take => k_is)
    (case l__law_take => k_is)
    (case c__law_take => k_is)
    (case k__law_take => k_is)
    (case a__law_one => k_is)
    (case l__law_one => k_is)
    (case c__law_one => k_is)
    (case k__law_one => k_is)
    (case a__law_odd => k_is)
    (case l__law_odd => k_is)
    (case c__law_odd => k_is)
    (case k__law_odd => k_is)
    (case a__law_odd_number => k_is)
    (case l__law_odd_number => k_is)
    (case c__law_odd_number => k_is)
    (case k__law_odd_number => k_is)
    (case a__law_frac => k_is)
    (case l__law_frac => k_is)
    (case c__law_frac => k_is)
    (case k__law_frac => k_is)
    (case a__law_mixed => k_is)
    (case l__law_mixed => k_is)
    (case c__law_mixed => k_is)
    (case k__law_mixed => k_is)
    (case a__law_plus => k_is)
    (case l__law_plus => k_is)
    (case c__law_plus => k_is)
    (case k__law_plus => k_is)
    (case a__law_span => k_is)
    (case l__law_span => k_is)
    (case c__law_span => k_is)
    (case k__law_span => k_is)
    (case a__law_tasks => k_is)
    (case l__law_tasks => k_is)
    (case c__law_tasks => k_is)
    (case k__law_tasks => k_is)
    (case a__law_parts => k_is)
    (case l__law_parts => k_is)
    (case c__law_parts => k_is)
    (case k__law_parts => k_is)
    (case a__law_with => k_is)
    (case l__law_with => k_is)
    (case c__law_with => k_is)
    (case k__law_with => k_is)
    (case a__law_others => k_is)
    (case l__law_others => k_is)
    (case c__law_others => k_is)
    (case k__law_others => k_is)
    (case at_Plan_order => k_is)
    (case gt_Plan_order => k_is)
    (case tk_Plan_order => k_is)
    (case rc_Plan_order => k_is)
    (case l_Plan_order => k_is)
    (case c_Plan_order => k_is)
    (case k_Plan_order => k_is)
    (case at_Plan_tasks => k_is)
    (case gt_Plan_tasks => k_is)
    (case tk_Plan_tasks => k_is)
    (case rc_Plan_tasks => k_is)
    (case l_Plan_tasks => k_is)
    (case c_Plan_tasks => k_is)
    (case k_Plan_tasks => k_is)
    (case at_Plan_workers => k_is)
    (case gt_Plan_workers => k_is)
    (case tk_Plan_workers => k_is)
    (case rc_Plan_workers => k_is)
    (case l_Plan_workers => k_is)
    (case c_Plan_workers => k_is)
    (case k_Plan_workers => k_is)
    (case a__law_told_plan => k_is)
    (case l__law_told_plan => k_is)
    (case c__law_told_plan => k_is)
    (case k__law_told_plan => k_is)
    (case z_repr => k_is)
    (case no_f_NoneType_Plan => k_is)
    (case no_f_bool_Plan => k_is)
    (case no_f_int_Plan => k_is)
    (case no_f_str_Plan => k_is)
    (case no_f_list_Plan => k_is)
    (case no_f_tuple_Plan => k_is)
    (case no_f_dict_Plan => k_is)
    (case no_ne_Plan => k_is)
    (case no_so_Plan => k_is)
    (case z_str => k_is)
    (case a_law_k04 => k_is)
    (case l_law_k04 => k_is)
    (case c_law_k04 => k_is)
    (case k_law_k04 => k_is)
